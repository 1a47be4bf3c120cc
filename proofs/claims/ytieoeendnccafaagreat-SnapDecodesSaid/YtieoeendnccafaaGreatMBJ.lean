/- What the document's reader's num, many, flag, text, value and session return. No condition but those named. -/
import Derived.Test.YtieoeendnccafaaGreatMTK
import Derived.Test.YtieoeendnccafaaGreatMBI
import Derived.Test.YtieoeendnccafaaGreatMAF
import Derived.Test.YtieoeendnccafaaGreatMAP
import Derived.Test.YtieoeendnccafaaGreatMBF
set_option linter.unusedSimpArgs false
set_option linter.unusedVariables false
set_option maxRecDepth 100000
set_option maxHeartbeats 25600000
namespace Go.Proofs.YtieoeendnccafaaGreat
section
open Go.RowKit
section
variable (A:Option Addr)(n c a:Nat)(l:Snp.Its)(w:World)(hr:itemLay.Reads w w.heap.size A l)(hl:l.length=n)
include hr hl
theorem rfint_any:Calls Tryz.prog 106 #[.slice A n c,.int .i64 (a:Int)] w fun e w'=>e=.returned (.tuple #[.int .i64 (Snp.gi l a).1,.bool (Snp.gi l a).2])∧w'=w:=by
 have h0:¬((a:Int)<0):=by omega
 cases hx:l[a]? with
 | none=>
  have e:Snp.gi l a=(0,false):=by unfold Snp.gi;rw[hx]
  rw[e]
  have h1:(n:Int)≤(a:Int):=by have:=List.getElem?_eq_none_iff.1 hx;omega
  clear hx e hr hl
  go_enter Tryz.func106,Tryz.ntmps106
  go_wp2_with (first|go_big_skip)
  go_ret2
  exact⟨rfl,rfl⟩
 | some x=>
  have hlt:=(List.getElem?_eq_some_iff.1 hx).1
  obtain⟨b,o,rfl,_,hat⟩:=hr (by omega)
  obtain⟨c0,c1,c2⟩:=at_item (hat a x hx)
  have h1:¬((n:Int)≤(a:Int)):=by omega
  have h2:(a:Int)<(n:Int):=by omega
  have h3:(0:Int)≤(a:Int):=by omega
  by_cases hk:x.k=0
  ·have e:Snp.gi l a=(x.n,true):=by unfold Snp.gi;rw[hx];exact if_pos hk
   rw[e]
   have hk2:(x.k != 0)=false:=by rw[hk];rfl
   obtain⟨xk,xn,xs⟩:=x
   simp only at c0 c1 c2 hk2 ⊢
   clear hx e hr hl hat hk c2 hlt
   go_enter Tryz.func106,Tryz.ntmps106
   go_wp2_with (first|go_big_skip)
   go_ret2
   exact⟨rfl,rfl⟩
  ·have e:Snp.gi l a=(0,false):=by unfold Snp.gi;rw[hx];exact if_neg hk
   rw[e]
   have hk2:(x.k != 0)=true:=by simpa using hk
   obtain⟨xk,xn,xs⟩:=x
   simp only at c0 c1 c2 hk2
   clear hx e hr hl hat hk c1 c2 hlt
   go_enter Tryz.func106,Tryz.ntmps106
   go_wp2_with (first|go_big_skip)
   go_ret2
   exact⟨rfl,rfl⟩
theorem rftxt_any:Calls Tryz.prog 176 #[.slice A n c,.int .i64 (a:Int)] w fun e w'=>e=.returned (.tuple #[.string (Snp.gt l a).1,.bool (Snp.gt l a).2])∧w'=w:=by
 have h0:¬((a:Int)<0):=by omega
 cases hx:l[a]? with
 | none=>
  have e:Snp.gt l a=(⟨#[]⟩,false):=by unfold Snp.gt;rw[hx]
  rw[e]
  have h1:(n:Int)≤(a:Int):=by have:=List.getElem?_eq_none_iff.1 hx;omega
  clear hx e hr hl
  go_enter Tryz.func176,Tryz.ntmps176
  go_wp2_with (first|go_big_skip)
  go_ret2
  exact⟨rfl,rfl⟩
 | some x=>
  have hlt:=(List.getElem?_eq_some_iff.1 hx).1
  obtain⟨b,o,rfl,_,hat⟩:=hr (by omega)
  obtain⟨c0,c1,c2⟩:=at_item (hat a x hx)
  have h1:¬((n:Int)≤(a:Int)):=by omega
  have h2:(a:Int)<(n:Int):=by omega
  have h3:(0:Int)≤(a:Int):=by omega
  by_cases hk:x.k=1
  ·have e:Snp.gt l a=(x.s,true):=by unfold Snp.gt;rw[hx];exact if_pos hk
   rw[e]
   have hk2:(x.k != 1)=false:=by rw[hk];rfl
   obtain⟨xk,xn,xs⟩:=x
   simp only at c0 c1 c2 hk2 ⊢
   clear hx e hr hl hat hk c1 hlt
   go_enter Tryz.func176,Tryz.ntmps176
   go_wp2_with (first|go_big_skip)
   go_ret2
   exact⟨rfl,rfl⟩
  ·have e:Snp.gt l a=(⟨#[]⟩,false):=by unfold Snp.gt;rw[hx];exact if_neg hk
   rw[e]
   have hk2:(x.k != 1)=true:=by simpa using hk
   obtain⟨xk,xn,xs⟩:=x
   simp only at c0 c1 c2 hk2
   clear hx e hr hl hat hk c1 c2 hlt
   go_enter Tryz.func176,Tryz.ntmps176
   go_wp2_with (first|go_big_skip)
   go_ret2
   exact⟨rfl,rfl⟩
end
def IsRv(l:Snp.Its)(a:Nat)(w:World)(e:Ending)(w':World):Prop:=∃(v:Val.V) (a':Nat) (ok:Bool),e=.returned (.tuple #[vv v,.int .i64 (a':Int),.bool ok])∧(ok=true→Snp.val (l.drop a)=some (v,l.drop a')∧a'≤l.length∧a'≤a+2)∧(ok=false→Snp.val (l.drop a)=none)∧Below w.heap.size w w'
theorem isRv_no{l:Snp.Its}{a:Nat}{w w':World}(h:Snp.val (l.drop a)=none)(hb:Below w.heap.size w w'):IsRv l a w (.returned (.tuple #[.agg #[.int .i64 0,.int .i64 0,.int .u64 ((0:Nat):Int),.string ⟨#[]⟩],.int .i64 ((0:Nat):Int),.bool false])) w':=⟨⟨0,0,0,⟨#[]⟩⟩,0,false,rfl,(fun e=>by cases e),fun _=>h,hb⟩
theorem isRv_yes{l:Snp.Its}{a a':Nat}{z:Int}{w w':World}{k n:Int}{f:Nat}{s:ByteArray}(hz:z=(a':Int))(h:Snp.val (l.drop a)=some (⟨k,n,f,s⟩,l.drop a'))(h1:a'≤l.length)(h2:a'≤a+2)(hb:Below w.heap.size w w'):IsRv l a w (.returned (.tuple #[.agg #[.int .i64 k,.int .i64 n,.int .u64 (f:Int),.string s],.int .i64 z,.bool true])) w':=⟨⟨k,n,f,s⟩,a',true,by rw[hz];rfl,(fun _=>⟨h,h1,h2⟩),(fun e=>by cases e),hb⟩
theorem rffrom_any(A:Option Addr)(n c a:Nat)(l:Snp.Its)(w:World)(hr:itemLay.Reads w w.heap.size A l)(hl:l.length=n)(hf:Snp.Fit l)(ha:a≤1000000):Calls Tryz.prog 177 #[.slice A n c,.int .i64 (a:Int)] w (IsRv l a w):=by
 have HI:Hid (∀(q:Nat) W,Below w.heap.size w W→Calls Tryz.prog 106 #[.slice A n c,.int .i64 (q:Int)] W fun e w'=>e=.returned (.tuple #[.int .i64 (Snp.gi l q).1,.bool (Snp.gi l q).2])∧w'=W):=zH fun q W hW=>rfint_any A n c q l W (hr.later hW (Nat.le_refl _)) hl
 have HT:Hid (∀(q:Nat) W,Below w.heap.size w W→Calls Tryz.prog 176 #[.slice A n c,.int .i64 (q:Int)] W fun e w'=>e=.returned (.tuple #[.string (Snp.gt l q).1,.bool (Snp.gt l q).2])∧w'=W):=zH fun q W hW=>rftxt_any A n c q l W (hr.later hW (Nat.le_refl _)) hl
 have HCk:=zH (fun(v:Val.V) W (h:v.f<18446744073709551616)=>rcheck_any v W h)
 have hw1:IntKind.i64.wrap ((a:Int)+1)=((a+1:Nat):Int):=by rw[IntKind.wrap_i64];omega
 have hw2:IntKind.i64.wrap (((a+1:Nat):Int)+1)=((a+2:Nat):Int):=by rw[IntKind.wrap_i64];omega
 have hw3:wrap64 ((a:Int)+1+1)=(a:Int)+2:=by unfold wrap64;omega
 have HA:=Snp.at_any hf a
 have HK:=zH (Kn.start w)
 unfold IsE vv at HCk
 clear hr hl hf ha
 have HI0:=zH (HI.out a)
 have HI1:=zH (HI.out (a+1))
 have HT1:=zH (HT.out (a+1))
 clear HI HT
 cases HA with
 | none h v=>
  have HV:=zH v
  rw[h] at HI0
  generalize (Snp.gi l a).1=gk at *
  clear h v HI1 HT1
  go_enter Tryz.func177,Tryz.ntmps177
  go_wp2_with (first|(refine wpList_akv HK rfl rfl ?_;intro _ g1 HK';simp only[lcA,lnA] at HK';replace HK:=HK';clear HK'))
  refine(HI0.out _ HK.out.b).mono ?_;rintro e w1 ⟨rfl,rfl⟩
  go_wp2_with (first|go_big_skip|(refine wpList_sv (k2:=0) (n2:=0) (f2:=0) (s2:=⟨#[]⟩) HK 0 rfl _ _ rfl rfl rfl rfl ?_;intro _ HK';simp only[List.set] at HK';replace HK:=HK';clear HK'))
  exact ret_v32 Tryz.results177 rfl rfl rfl rfl (HK.out.blk 0 rfl) (isRv_no HV.out HK.out.b)
 | kind k h hk v=>
  have HV:=zH v
  rw[h] at HI0
  clear h v HI1 HT1
  rcases hk with hk|hk
  ·have h1:k<0:=hk
   go_enter Tryz.func177,Tryz.ntmps177
   go_wp2_with (first|(refine wpList_akv HK rfl rfl ?_;intro _ g1 HK';simp only[lcA,lnA] at HK';replace HK:=HK';clear HK'))
   refine(HI0.out _ HK.out.b).mono ?_;rintro e w1 ⟨rfl,rfl⟩
   go_wp2_with (first|go_big_skip|(refine wpList_sv (k2:=0) (n2:=0) (f2:=0) (s2:=⟨#[]⟩) HK 0 rfl _ _ rfl rfl rfl rfl ?_;intro _ HK';simp only[List.set] at HK';replace HK:=HK';clear HK'))
   exact ret_v32 Tryz.results177 rfl rfl rfl rfl (HK.out.blk 0 rfl) (isRv_no HV.out HK.out.b)
  ·have h1:¬(k<0):=by omega
   have h2:3<k:=hk
   go_enter Tryz.func177,Tryz.ntmps177
   go_wp2_with (first|(refine wpList_akv HK rfl rfl ?_;intro _ g1 HK';simp only[lcA,lnA] at HK';replace HK:=HK';clear HK'))
   refine(HI0.out _ HK.out.b).mono ?_;rintro e w1 ⟨rfl,rfl⟩
   go_wp2_with (first|go_big_skip|(refine wpList_sv (k2:=0) (n2:=0) (f2:=0) (s2:=⟨#[]⟩) HK 0 rfl _ _ rfl rfl rfl rfl ?_;intro _ HK';simp only[List.set] at HK';replace HK:=HK';clear HK'))
   exact ret_v32 Tryz.results177 rfl rfl rfl rfl (HK.out.blk 0 rfl) (isRv_no HV.out HK.out.b)
 | zero h v hl=>
  have HV:=zH v
  have HL:=zH hl
  rw[h] at HI0
  clear h v hl HI1 HT1
  go_enter Tryz.func177,Tryz.ntmps177
  go_wp2_with (first|(refine wpList_akv HK rfl rfl ?_;intro _ g1 HK';simp only[lcA,lnA] at HK';replace HK:=HK';clear HK'))
  refine(HI0.out _ HK.out.b).mono ?_;rintro e w1 ⟨rfl,rfl⟩
  go_wp2_with (first|go_big_skip|(refine wpList_sv (k2:=0) (n2:=0) (f2:=0) (s2:=⟨#[]⟩) HK 0 rfl _ _ rfl rfl rfl rfl ?_;intro _ HK';simp only[List.set] at HK';replace HK:=HK';clear HK'))
  exact ret_v32 Tryz.results177 rfl rfl rfl rfl (HK.out.blk 0 rfl) (isRv_yes (a':=a+1) (by first|rfl|omega) HV.out HL.out (by omega) HK.out.b)
 | int0 h h2 v=>
  have HV:=zH v
  rw[h] at HI0
  rw[h2] at HI1
  generalize (Snp.gi l (a+1)).1=gk at *
  clear h h2 v HT1 HCk
  go_enter Tryz.func177,Tryz.ntmps177
  go_wp2_with (first|(refine wpList_akv HK rfl rfl ?_;intro _ g1 HK';simp only[lcA,lnA] at HK';replace HK:=HK';clear HK'))
  refine(HI0.out _ HK.out.b).mono ?_;rintro e w1 ⟨rfl,rfl⟩
  go_wp2_with (first|go_big_skip|(refine wpList_akv HK rfl rfl ?_;intro _ g2 HK';simp only[lcA,lnA] at HK';replace HK:=HK';clear HK')|(refine wpList_sv (k2:=1) (n2:=0) (f2:=0) (s2:=⟨#[]⟩) HK 1 rfl _ _ rfl rfl rfl rfl ?_;intro _ HK';simp only[List.set] at HK';replace HK:=HK';clear HK')|fail)
  refine(HI1.out _ HK.out.b).mono ?_;rintro e w1 ⟨rfl,rfl⟩
  go_wp2_with (first|go_big_skip|(refine wpList_svn (n2:=gk) HK 1 rfl _ _ rfl rfl rfl rfl ?_;intro _ HK';simp only[List.set] at HK';replace HK:=HK';clear HK')|(refine wpList_sv (k2:=0) (n2:=0) (f2:=0) (s2:=⟨#[]⟩) HK 0 rfl _ _ rfl rfl rfl rfl ?_;intro _ HK';simp only[List.set] at HK';replace HK:=HK';clear HK'))
  exact ret_v32 Tryz.results177 rfl rfl rfl rfl (HK.out.blk 0 rfl) (isRv_no HV.out HK.out.b)
 | int m h h2 v hl=>
  have HV:=zH v
  rw[h] at HI0
  have HL:=zH hl
  rw[h2] at HI1
  have HCv:=zH (fun W=>HCk.out ⟨1,m,0,Val.emp⟩ W (by show(0:Nat)<18446744073709551616;decide))
  rw[Snp.chk_num] at HCv
  clear h h2 v hl HT1 HCk
  go_enter Tryz.func177,Tryz.ntmps177
  go_wp2_with (first|(refine wpList_akv HK rfl rfl ?_;intro _ g1 HK';simp only[lcA,lnA] at HK';replace HK:=HK';clear HK'))
  refine(HI0.out _ HK.out.b).mono ?_;rintro e w1 ⟨rfl,rfl⟩
  go_wp2_with (first|go_big_skip|(refine wpList_akv HK rfl rfl ?_;intro _ g2 HK';simp only[lcA,lnA] at HK';replace HK:=HK';clear HK')|(refine wpList_sv (k2:=1) (n2:=0) (f2:=0) (s2:=⟨#[]⟩) HK 1 rfl _ _ rfl rfl rfl rfl ?_;intro _ HK';simp only[List.set] at HK';replace HK:=HK';clear HK')|fail)
  refine(HI1.out _ HK.out.b).mono ?_;rintro e w1 ⟨rfl,rfl⟩
  go_wp2_with (first|go_big_skip|(refine wpList_svn (n2:=m) HK 1 rfl _ _ rfl rfl rfl rfl ?_;intro _ HK';simp only[List.set] at HK';replace HK:=HK';clear HK')|refine zX (kexec_vv HK 1 _ (by rfl) (by rfl) (by rfl)) ?_)
  refine(HCv.out _).mono ?_;rintro e w2 ⟨rfl,b2⟩
  replace HK:=hkC HK b2
  clear b2
  go_wp2_with (first|go_big_skip|refine zX (kexec_vv HK 1 _ (by rfl) (by rfl) (by rfl)) ?_|(refine wpList_sv (k2:=1) (n2:=m) (f2:=0) (s2:=⟨#[]⟩) HK 0 rfl _ _ rfl rfl rfl rfl ?_;intro _ HK';simp only[List.set] at HK';replace HK:=HK';clear HK'))
  exact ret_v32 Tryz.results177 rfl rfl rfl rfl (HK.out.blk 0 rfl) (isRv_yes (a':=a+2) (by first|rfl|omega) HV.out HL.out (by omega) HK.out.b)
 | flo0 h h2 v=>
  have HV:=zH v
  rw[h] at HI0
  rw[h2] at HI1
  generalize (Snp.gi l (a+1)).1=gk at *
  have hus:=wrap_us2 gk
  clear h h2 v HT1 HCk
  go_enter Tryz.func177,Tryz.ntmps177
  go_wp2_with (first|(refine wpList_akv HK rfl rfl ?_;intro _ g1 HK';simp only[lcA,lnA] at HK';replace HK:=HK';clear HK'))
  refine(HI0.out _ HK.out.b).mono ?_;rintro e w1 ⟨rfl,rfl⟩
  go_wp2_with (first|go_big_skip|(refine wpList_akv HK rfl rfl ?_;intro _ g2 HK';simp only[lcA,lnA] at HK';replace HK:=HK';clear HK')|(refine wpList_sv (k2:=2) (n2:=0) (f2:=0) (s2:=⟨#[]⟩) HK 1 rfl _ _ rfl rfl rfl rfl ?_;intro _ HK';simp only[List.set] at HK';replace HK:=HK';clear HK')|fail)
  refine(HI1.out _ HK.out.b).mono ?_;rintro e w1 ⟨rfl,rfl⟩
  go_wp2_with (first|go_big_skip|(refine wpList_svn (n2:=gk) HK 1 rfl _ _ rfl rfl rfl rfl ?_;intro _ HK';simp only[List.set] at HK';replace HK:=HK';clear HK')|(refine wpList_svn (n2:=0) HK 1 rfl _ _ rfl rfl rfl rfl ?_;intro _ HK';simp only[List.set] at HK';replace HK:=HK';clear HK')|refine zX (kexec_lc HK 3 _ (by rfl) 1 (by rfl) (by rfl) (v:=.int .i64 gk) (by rfl) Tryz.underlying3 rfl) ?_|(refine wpList_svf (f2:=Val.us gk) HK 1 rfl _ _ rfl rfl rfl rfl ?_;intro _ HK';simp only[List.set] at HK';replace HK:=HK';clear HK')|(refine wpList_sv (k2:=0) (n2:=0) (f2:=0) (s2:=⟨#[]⟩) HK 0 rfl _ _ rfl rfl rfl rfl ?_;intro _ HK';simp only[List.set] at HK';replace HK:=HK';clear HK'))
  exact ret_v32 Tryz.results177 rfl rfl rfl rfl (HK.out.blk 0 rfl) (isRv_no HV.out HK.out.b)
 | flo1 m h h2 hc v=>
  have HV:=zH v
  rw[h] at HI0
  rw[h2] at HI1
  have hus:=wrap_us2 m
  have HCv:=zH (fun W=>HCk.out ⟨2,0,Val.us m,Val.emp⟩ W (Snp.us_in m))
  have hz:(Val.chk ⟨2,0,Val.us m,Val.emp⟩ != 0)=true:=by simpa using hc
  generalize Val.chk ⟨2,0,Val.us m,Val.emp⟩=z at *
  clear h h2 v hc HT1 HCk
  go_enter Tryz.func177,Tryz.ntmps177
  go_wp2_with (first|(refine wpList_akv HK rfl rfl ?_;intro _ g1 HK';simp only[lcA,lnA] at HK';replace HK:=HK';clear HK'))
  refine(HI0.out _ HK.out.b).mono ?_;rintro e w1 ⟨rfl,rfl⟩
  go_wp2_with (first|go_big_skip|(refine wpList_akv HK rfl rfl ?_;intro _ g2 HK';simp only[lcA,lnA] at HK';replace HK:=HK';clear HK')|(refine wpList_sv (k2:=2) (n2:=0) (f2:=0) (s2:=⟨#[]⟩) HK 1 rfl _ _ rfl rfl rfl rfl ?_;intro _ HK';simp only[List.set] at HK';replace HK:=HK';clear HK')|fail)
  refine(HI1.out _ HK.out.b).mono ?_;rintro e w1 ⟨rfl,rfl⟩
  go_wp2_with (first|go_big_skip|(refine wpList_svn (n2:=m) HK 1 rfl _ _ rfl rfl rfl rfl ?_;intro _ HK';simp only[List.set] at HK';replace HK:=HK';clear HK')|(refine wpList_svn (n2:=0) HK 1 rfl _ _ rfl rfl rfl rfl ?_;intro _ HK';simp only[List.set] at HK';replace HK:=HK';clear HK')|refine zX (kexec_lc HK 3 _ (by rfl) 1 (by rfl) (by rfl) (v:=.int .i64 m) (by rfl) Tryz.underlying3 rfl) ?_|(refine wpList_svf (f2:=Val.us m) HK 1 rfl _ _ rfl rfl rfl rfl ?_;intro _ HK';simp only[List.set] at HK';replace HK:=HK';clear HK')|refine zX (kexec_vv HK 1 _ (by rfl) (by rfl) (by rfl)) ?_)
  refine(HCv.out _).mono ?_;rintro e w2 ⟨rfl,b2⟩
  replace HK:=hkC HK b2
  clear b2
  go_wp2_with (first|go_big_skip|refine zX (kexec_vv HK 1 _ (by rfl) (by rfl) (by rfl)) ?_|(refine wpList_sv (k2:=0) (n2:=0) (f2:=0) (s2:=⟨#[]⟩) HK 0 rfl _ _ rfl rfl rfl rfl ?_;intro _ HK';simp only[List.set] at HK';replace HK:=HK';clear HK'))
  exact ret_v32 Tryz.results177 rfl rfl rfl rfl (HK.out.blk 0 rfl) (isRv_no HV.out HK.out.b)
 | flo m h h2 hc v hl=>
  have HV:=zH v
  rw[h] at HI0
  have HL:=zH hl
  rw[h2] at HI1
  have hus:=wrap_us2 m
  have HCv:=zH (fun W=>HCk.out ⟨2,0,Val.us m,Val.emp⟩ W (Snp.us_in m))
  rw[hc] at HCv
  clear h h2 v hc hl HT1 HCk
  go_enter Tryz.func177,Tryz.ntmps177
  go_wp2_with (first|(refine wpList_akv HK rfl rfl ?_;intro _ g1 HK';simp only[lcA,lnA] at HK';replace HK:=HK';clear HK'))
  refine(HI0.out _ HK.out.b).mono ?_;rintro e w1 ⟨rfl,rfl⟩
  go_wp2_with (first|go_big_skip|(refine wpList_akv HK rfl rfl ?_;intro _ g2 HK';simp only[lcA,lnA] at HK';replace HK:=HK';clear HK')|(refine wpList_sv (k2:=2) (n2:=0) (f2:=0) (s2:=⟨#[]⟩) HK 1 rfl _ _ rfl rfl rfl rfl ?_;intro _ HK';simp only[List.set] at HK';replace HK:=HK';clear HK')|fail)
  refine(HI1.out _ HK.out.b).mono ?_;rintro e w1 ⟨rfl,rfl⟩
  go_wp2_with (first|go_big_skip|(refine wpList_svn (n2:=m) HK 1 rfl _ _ rfl rfl rfl rfl ?_;intro _ HK';simp only[List.set] at HK';replace HK:=HK';clear HK')|(refine wpList_svn (n2:=0) HK 1 rfl _ _ rfl rfl rfl rfl ?_;intro _ HK';simp only[List.set] at HK';replace HK:=HK';clear HK')|refine zX (kexec_lc HK 3 _ (by rfl) 1 (by rfl) (by rfl) (v:=.int .i64 m) (by rfl) Tryz.underlying3 rfl) ?_|(refine wpList_svf (f2:=Val.us m) HK 1 rfl _ _ rfl rfl rfl rfl ?_;intro _ HK';simp only[List.set] at HK';replace HK:=HK';clear HK')|refine zX (kexec_vv HK 1 _ (by rfl) (by rfl) (by rfl)) ?_)
  refine(HCv.out _).mono ?_;rintro e w2 ⟨rfl,b2⟩
  replace HK:=hkC HK b2
  clear b2
  go_wp2_with (first|go_big_skip|refine zX (kexec_vv HK 1 _ (by rfl) (by rfl) (by rfl)) ?_|(refine wpList_sv (k2:=2) (n2:=0) (f2:=Val.us m) (s2:=⟨#[]⟩) HK 0 rfl _ _ rfl rfl rfl rfl ?_;intro _ HK';simp only[List.set] at HK';replace HK:=HK';clear HK'))
  exact ret_v32 Tryz.results177 rfl rfl rfl rfl (HK.out.blk 0 rfl) (isRv_yes (a':=a+2) (by first|rfl|omega) HV.out HL.out (by omega) HK.out.b)
 | txt0 h h2 v=>
  have HV:=zH v
  rw[h] at HI0
  rw[h2] at HT1
  generalize (Snp.gt l (a+1)).1=gk at *
  clear h h2 v HI1 HCk
  go_enter Tryz.func177,Tryz.ntmps177
  go_wp2_with (first|(refine wpList_akv HK rfl rfl ?_;intro _ g1 HK';simp only[lcA,lnA] at HK';replace HK:=HK';clear HK'))
  refine(HI0.out _ HK.out.b).mono ?_;rintro e w1 ⟨rfl,rfl⟩
  go_wp2_with (first|go_big_skip|(refine wpList_akv HK rfl rfl ?_;intro _ g2 HK';simp only[lcA,lnA] at HK';replace HK:=HK';clear HK')|(refine wpList_sv (k2:=3) (n2:=0) (f2:=0) (s2:=⟨#[]⟩) HK 1 rfl _ _ rfl rfl rfl rfl ?_;intro _ HK';simp only[List.set] at HK';replace HK:=HK';clear HK')|fail)
  refine(HT1.out _ HK.out.b).mono ?_;rintro e w1 ⟨rfl,rfl⟩
  go_wp2_with (first|go_big_skip|(refine wpList_svs (s2:=gk) HK 1 rfl _ _ rfl rfl rfl rfl ?_;intro _ HK';simp only[List.set] at HK';replace HK:=HK';clear HK')|(refine wpList_sv (k2:=0) (n2:=0) (f2:=0) (s2:=⟨#[]⟩) HK 0 rfl _ _ rfl rfl rfl rfl ?_;intro _ HK';simp only[List.set] at HK';replace HK:=HK';clear HK'))
  exact ret_v32 Tryz.results177 rfl rfl rfl rfl (HK.out.blk 0 rfl) (isRv_no HV.out HK.out.b)
 | txt1 s h h2 hc v=>
  have HV:=zH v
  rw[h] at HI0
  rw[h2] at HT1
  have HCv:=zH (fun W=>HCk.out ⟨3,0,0,s⟩ W (by show(0:Nat)<18446744073709551616;decide))
  have hz:(Val.chk ⟨3,0,0,s⟩ != 0)=true:=by simpa using hc
  generalize Val.chk ⟨3,0,0,s⟩=z at *
  clear h h2 v hc HI1 HCk
  go_enter Tryz.func177,Tryz.ntmps177
  go_wp2_with (first|(refine wpList_akv HK rfl rfl ?_;intro _ g1 HK';simp only[lcA,lnA] at HK';replace HK:=HK';clear HK'))
  refine(HI0.out _ HK.out.b).mono ?_;rintro e w1 ⟨rfl,rfl⟩
  go_wp2_with (first|go_big_skip|(refine wpList_akv HK rfl rfl ?_;intro _ g2 HK';simp only[lcA,lnA] at HK';replace HK:=HK';clear HK')|(refine wpList_sv (k2:=3) (n2:=0) (f2:=0) (s2:=⟨#[]⟩) HK 1 rfl _ _ rfl rfl rfl rfl ?_;intro _ HK';simp only[List.set] at HK';replace HK:=HK';clear HK')|fail)
  refine(HT1.out _ HK.out.b).mono ?_;rintro e w1 ⟨rfl,rfl⟩
  go_wp2_with (first|go_big_skip|(refine wpList_svs (s2:=s) HK 1 rfl _ _ rfl rfl rfl rfl ?_;intro _ HK';simp only[List.set] at HK';replace HK:=HK';clear HK')|refine zX (kexec_vv HK 1 _ (by rfl) (by rfl) (by rfl)) ?_)
  refine(HCv.out _).mono ?_;rintro e w2 ⟨rfl,b2⟩
  replace HK:=hkC HK b2
  clear b2
  go_wp2_with (first|go_big_skip|refine zX (kexec_vv HK 1 _ (by rfl) (by rfl) (by rfl)) ?_|(refine wpList_sv (k2:=0) (n2:=0) (f2:=0) (s2:=⟨#[]⟩) HK 0 rfl _ _ rfl rfl rfl rfl ?_;intro _ HK';simp only[List.set] at HK';replace HK:=HK';clear HK'))
  exact ret_v32 Tryz.results177 rfl rfl rfl rfl (HK.out.blk 0 rfl) (isRv_no HV.out HK.out.b)
 | txt s h h2 hc v hl=>
  have HV:=zH v
  rw[h] at HI0
  have HL:=zH hl
  rw[h2] at HT1
  have HCv:=zH (fun W=>HCk.out ⟨3,0,0,s⟩ W (by show(0:Nat)<18446744073709551616;decide))
  rw[hc] at HCv
  clear h h2 v hc hl HI1 HCk
  go_enter Tryz.func177,Tryz.ntmps177
  go_wp2_with (first|(refine wpList_akv HK rfl rfl ?_;intro _ g1 HK';simp only[lcA,lnA] at HK';replace HK:=HK';clear HK'))
  refine(HI0.out _ HK.out.b).mono ?_;rintro e w1 ⟨rfl,rfl⟩
  go_wp2_with (first|go_big_skip|(refine wpList_akv HK rfl rfl ?_;intro _ g2 HK';simp only[lcA,lnA] at HK';replace HK:=HK';clear HK')|(refine wpList_sv (k2:=3) (n2:=0) (f2:=0) (s2:=⟨#[]⟩) HK 1 rfl _ _ rfl rfl rfl rfl ?_;intro _ HK';simp only[List.set] at HK';replace HK:=HK';clear HK')|fail)
  refine(HT1.out _ HK.out.b).mono ?_;rintro e w1 ⟨rfl,rfl⟩
  go_wp2_with (first|go_big_skip|(refine wpList_svs (s2:=s) HK 1 rfl _ _ rfl rfl rfl rfl ?_;intro _ HK';simp only[List.set] at HK';replace HK:=HK';clear HK')|refine zX (kexec_vv HK 1 _ (by rfl) (by rfl) (by rfl)) ?_)
  refine(HCv.out _).mono ?_;rintro e w2 ⟨rfl,b2⟩
  replace HK:=hkC HK b2
  clear b2
  go_wp2_with (first|go_big_skip|refine zX (kexec_vv HK 1 _ (by rfl) (by rfl) (by rfl)) ?_|(refine wpList_sv (k2:=3) (n2:=0) (f2:=0) (s2:=s) HK 0 rfl _ _ rfl rfl rfl rfl ?_;intro _ HK';simp only[List.set] at HK';replace HK:=HK';clear HK'))
  exact ret_v32 Tryz.results177 rfl rfl rfl rfl (HK.out.blk 0 rfl) (isRv_yes (a':=a+2) (by first|rfl|omega) HV.out HL.out (by omega) HK.out.b)
end
section
open Go.RowKit
theorem Snp.Q.cnt_no{m:Int}{l:Snp.Its}{a a1:Nat}{b b1:Bool}{v:Int}(h:Snp.Q Snp.num l a b v a1 b1)(hv:v<0∨m<v):Snp.Q (Snp.cnt m) l a b 0 a1 true:=by
 refine⟨(fun e=>by cases e),fun e hn=>?_⟩
 have hp:¬Snp.num (l.drop a)=none:=fun q=>hn (Snp.bnd_none q)
 obtain⟨_,h1,_⟩:=h.good (h.bad e hp)
 refine absurd ?_ hn
 have e2:Snp.cnt m (l.drop a)=(if v<0∨m<v then fun _=>none else Snp.ret v.toNat) (l.drop a1):=Snp.bnd_of h1
 rw[e2,if_pos hv]
theorem Snp.Q.cnt_yes{m:Int}{l:Snp.Its}{a a1:Nat}{b b1:Bool}{N:Nat}(h:Snp.Q Snp.num l a b (N:Int) a1 b1)(hv:(N:Int)≤m):Snp.Q (Snp.cnt m) l a b N a1 b1:=by
 refine Snp.Q.bnd h ?_
 show Snp.Q (if (N:Int)<0∨m<N then fun _=>none else Snp.ret (N:Int).toNat) l a1 b1 N a1 b1
 rw[if_neg (by omega)]
 exact Snp.Q.ret N h.le
def Rqm(m:Int)(g:Nat)(A:Option Addr)(n c:Nat)(l:Snp.Its)(a:Nat)(b:Bool)(w:World)(e:Ending)(w':World):Prop:=
 ∃(x:Nat) (a':Nat) (b':Bool),e=.returned (.int .i64 (x:Int))∧Snp.Q (Snp.cnt m) l a b x a' b'∧a'≤a+1∧Rof g A n c l a' b' [] w w'∧(x:Int)≤m
section
variable {b0:Nat}{w0 w:World}{L:List (Nat×TypeId×Array Value)}{R:List RowE}{ops:Array Oper}{o:Oper}{a:Act}{Q:Exit→Act→World→Prop}{K:Act→World→Prop}{E:Prop}{g:Nat}{k n k2 n2:Int}{f f2:Nat}{s s2:ByteArray}
theorem step_akv2(HK:Hid (Kn b0 w0 w L R))(hgd:o.guard=none)(ho:o.op=.alloc 26)
  (h:∀w' g,Hid (Kn b0 w0 w' (L++[(g,26,vC 0 0 0 ⟨#[]⟩)]) R)→K (a.put o.dst (.pointer (some ⟨g,0,none⟩))) w'):if Region.wanted o (yielded ops a.tmps)=true then Oper.wp Tryz.prog o a w K Q else E:=by
 rw[if_pos (by simp[Region.wanted,hgd])]
 have h4:=h _ w.heap.size (zH (HK.out.alloc _ _))
 unfold Oper.wp execOp
 simp only[ho]
 unfold vC at h4
 go_simp
 exact h4
theorem step_sv2(HK:Hid (Kn b0 w0 w L R))(i:Nat)(hgd:o.guard=none)(p q:Operand)(ho:o.op=.store 26 p q)(hL:L[i]?=some (g,26,vC k n f s))(hx:a.eval p=.pointer (some ⟨g,0,none⟩))(hy:a.eval q=.agg #[.int .i64 k2,.int .i64 n2,.int .u64 (f2:Int),.string s2])
  (h:∀w',Hid (Kn b0 w0 w' (L.set i (g,26,vC k2 n2 f2 s2)) R)→K (a.put o.dst undef) w'):if Region.wanted o (yielded ops a.tmps)=true then Oper.wp Tryz.prog o a w K Q else E:=by
 rw[if_pos (by simp[Region.wanted,hgd])]
 exact kwp_ss HK _ p q ho i hL hx hy (by show 4≤4;decide) info_v4 (by simp[Value.oneCell']) fun w' h1 _=>h w' (by
  have e:putCells (vC k n f s) 0 (#[Value.int .i64 k2,.int .i64 n2,.int .u64 (f2:Int),.string s2]:Array Value).toList=vC k2 n2 f2 s2:=by
   show putCells (vC k n f s) 0 (vC k2 n2 f2 s2).toList=vC k2 n2 f2 s2
   rw[putCells_all (vs:=(vC k2 n2 f2 s2).toList) (cs:=vC k n f s) rfl,Array.toArray_toList]
  rw[e] at h1
  exact h1)
end
section
variable (g:Nat)(A:Option Addr)(n c:Nat)(l:Snp.Its)
theorem rfnum_any(a:Nat)(b:Bool)(w:World)(h:Rdf g A n c l a b w)(ha:a≤100000):Calls Tryz.prog 53 #[.pointer (some ⟨g,0,none⟩)] w (Rq Snp.num 1 (fun x=>.int .i64 x) g A n c l a b w):=by
 have HI:Hid (∀W,Rdf g A n c l a b W→Calls Tryz.prog 106 #[.slice A n c,.int .i64 (a:Int)] W fun e w'=>e=.returned (.tuple #[.int .i64 (Snp.gi l a).1,.bool (Snp.gi l a).2])∧w'=W):=zH fun W h=>rfint_any A n c a l W (h.rd.more (Nat.le_of_lt h.kb.lt)) h.ln
 have HQ:=zH (Snp.Q.num l a b)
 have hw1:IntKind.i64.wrap ((a:Int)+1)=((a+1:Nat):Int):=by rw[IntKind.wrap_i64];omega
 have HW:=zH (Rsf.start h)
 have HK:=zH (Kn.start w)
 clear h
 generalize (Snp.gi l a).1=v at *
 generalize (Snp.gi l a).2=ok at *
 cases b
 all_goals
  go_enter Tryz.func53,Tryz.ntmps53
  go_wp2_with fail
  refine wp_region_held_drew (S:=(fun W=>Hid (Kn w.heap.size w W [] []))) (by kernel_rfl) ?_ (fun hHeld=>?_)
  ·(try dsimp only);exact zH HK.out.drew
  refine stk 0 6 rfl ?_
  refine stk 1 7 rfl ?_
  refine stk 2 8 rfl ?_
  refine stk 3 9 rfl ?_ (fun w hSw=>exec_rfs HW hSw _ (by rfl) (by rfl))
  refine stk 4 10 rfl ?_
  refine stk 5 11 rfl ?_
  refine stk 6 12 rfl ?_
  refine stk 7 13 rfl ?_ (fun w hSw=>exec_rfa HW hSw _ (by rfl) (by rfl))
  refine srd1 8 (some 14) rfl (fun K hK=>?_)
  go_simp
  go_at_call 106
  refine(HI.out _ (HW.out.at hHeld.out)).mono ?_;rintro e w5 ⟨rfl,rfl⟩;have hs:=hHeld
  refine hK.out _ _ hs (fun hHeld=>?_)
  clear hK K
  try simp only[ap1,ap2,ap3,ap4,ap5]
  refine stk 9 5 rfl ?_
  refine stk 10 15 rfl ?_
  refine stk 11 16 rfl ?_
  refine stk 12 3 rfl ?_
  refine stk 13 4 rfl ?_
  refine wpAnyH_done (by kernel_rfl) ?_ _
  have HK1:=hHeld
  clear HK HI hHeld
  have HK:=HK1
  clear HK1
  first
   | (
    go_wp2_with (first|go_big_skip|refine zX (exec_rfa HW HK _ (by rfl) (by rfl)) ?_|(refine wpList_srfa (a':=a+1) HW HK rfl _ _ rfl rfl rfl ?_;intro W1 _ HW' HK';replace HW:=HW';replace HK:=HK';clear HW' HK')|refine zX (exec_rfb HW HK _ (by rfl) (by rfl)) ?_|(refine wpList_srfb (b':=!ok) HW HK rfl _ _ rfl rfl rfl ?_;intro W1 _ HW' HK';replace HW:=HW';replace HK:=HK';clear HW' HK'))
    go_ret
    exact⟨v,a+1,!ok,rfl,HQ.out,Nat.le_refl _,Rof.mk HW.out HK.out⟩)
   | (
    go_wp2_with (first|go_big_skip|refine zX (exec_rfa HW HK _ (by rfl) (by rfl)) ?_|(refine wpList_srfa (a':=a+1) HW HK rfl _ _ rfl rfl rfl ?_;intro W1 _ HW' HK';replace HW:=HW';replace HK:=HK';clear HW' HK')|refine zX (exec_rfb HW HK _ (by rfl) (by rfl)) ?_|(refine wpList_srfb (b':=true) HW HK rfl _ _ rfl rfl rfl ?_;intro W1 _ HW' HK';replace HW:=HW';replace HK:=HK';clear HW' HK'))
    go_ret
    exact⟨v,a+1,true,rfl,HQ.out,Nat.le_refl _,Rof.mk HW.out HK.out⟩)
theorem rftext_any(a:Nat)(b:Bool)(w:World)(h:Rdf g A n c l a b w)(ha:a≤100000):Calls Tryz.prog 107 #[.pointer (some ⟨g,0,none⟩)] w (Rq Snp.txt 1 (fun x=>.string x) g A n c l a b w):=by
 have HI:Hid (∀W,Rdf g A n c l a b W→Calls Tryz.prog 176 #[.slice A n c,.int .i64 (a:Int)] W fun e w'=>e=.returned (.tuple #[.string (Snp.gt l a).1,.bool (Snp.gt l a).2])∧w'=W):=zH fun W h=>rftxt_any A n c a l W (h.rd.more (Nat.le_of_lt h.kb.lt)) h.ln
 have HQ:=zH (Snp.Q.txt l a b)
 have hw1:IntKind.i64.wrap ((a:Int)+1)=((a+1:Nat):Int):=by rw[IntKind.wrap_i64];omega
 have HW:=zH (Rsf.start h)
 have HK:=zH (Kn.start w)
 clear h
 generalize (Snp.gt l a).1=v at *
 generalize (Snp.gt l a).2=ok at *
 cases b
 all_goals
  go_enter Tryz.func107,Tryz.ntmps107
  go_wp2_with fail
  refine wp_region_held_drew (S:=(fun W=>Hid (Kn w.heap.size w W [] []))) (by kernel_rfl) ?_ (fun hHeld=>?_)
  ·(try dsimp only);exact zH HK.out.drew
  refine stk 0 6 rfl ?_
  refine stk 1 7 rfl ?_
  refine stk 2 8 rfl ?_
  refine stk 3 9 rfl ?_ (fun w hSw=>exec_rfs HW hSw _ (by rfl) (by rfl))
  refine stk 4 10 rfl ?_
  refine stk 5 11 rfl ?_
  refine stk 6 12 rfl ?_
  refine stk 7 13 rfl ?_ (fun w hSw=>exec_rfa HW hSw _ (by rfl) (by rfl))
  refine srd1 8 (some 14) rfl (fun K hK=>?_)
  go_simp
  go_at_call 176
  refine(HI.out _ (HW.out.at hHeld.out)).mono ?_;rintro e w5 ⟨rfl,rfl⟩;have hs:=hHeld
  refine hK.out _ _ hs (fun hHeld=>?_)
  clear hK K
  try simp only[ap1,ap2,ap3,ap4,ap5]
  refine stk 9 5 rfl ?_
  refine stk 10 15 rfl ?_
  refine stk 11 16 rfl ?_
  refine stk 12 3 rfl ?_
  refine stk 13 4 rfl ?_
  refine wpAnyH_done (by kernel_rfl) ?_ _
  have HK1:=hHeld
  clear HK HI hHeld
  have HK:=HK1
  clear HK1
  first
   | (
    go_wp2_with (first|go_big_skip|refine zX (exec_rfa HW HK _ (by rfl) (by rfl)) ?_|(refine wpList_srfa (a':=a+1) HW HK rfl _ _ rfl rfl rfl ?_;intro W1 _ HW' HK';replace HW:=HW';replace HK:=HK';clear HW' HK')|refine zX (exec_rfb HW HK _ (by rfl) (by rfl)) ?_|(refine wpList_srfb (b':=!ok) HW HK rfl _ _ rfl rfl rfl ?_;intro W1 _ HW' HK';replace HW:=HW';replace HK:=HK';clear HW' HK'))
    go_ret
    exact⟨v,a+1,!ok,rfl,HQ.out,Nat.le_refl _,Rof.mk HW.out HK.out⟩)
   | (
    go_wp2_with (first|go_big_skip|refine zX (exec_rfa HW HK _ (by rfl) (by rfl)) ?_|(refine wpList_srfa (a':=a+1) HW HK rfl _ _ rfl rfl rfl ?_;intro W1 _ HW' HK';replace HW:=HW';replace HK:=HK';clear HW' HK')|refine zX (exec_rfb HW HK _ (by rfl) (by rfl)) ?_|(refine wpList_srfb (b':=true) HW HK rfl _ _ rfl rfl rfl ?_;intro W1 _ HW' HK';replace HW:=HW';replace HK:=HK';clear HW' HK'))
    go_ret
    exact⟨v,a+1,true,rfl,HQ.out,Nat.le_refl _,Rof.mk HW.out HK.out⟩)
theorem rfmany_any(m:Int)(hm:0≤m)(a:Nat)(b:Bool)(w:World)(h:Rdf g A n c l a b w)(ha:a≤100000):Calls Tryz.prog 54 #[.pointer (some ⟨g,0,none⟩),.int .i64 m] w (Rqm m g A n c l a b w):=by
 have HN_:=zH (rfnum_any g A n c l)
 have HW:=zH (Rsf.start h)
 have HK:=zH (Kn.start w)
 clear h
 go_enter Tryz.func54,Tryz.ntmps54
 go_wp2_with fail
 refine(HN_.out _ _ _ (HW.out.at HK.out) (by omega)).mono ?_;rintro e w1 ⟨v,a1,b1,rfl,q1,u1,hk⟩;obtain⟨W1,HW1,HK1⟩:=hk.join HW.out HK.out;replace HW:=HW1;replace HK:=HK1;have HQ1:=zH q1;clear HW1 HK1 hk q1;simp only[List.append_nil] at HK
 by_cases h1:v<0
 ·have HQ:=zH (HQ1.out.cnt_no (m:=m) (.inl h1))
  go_wp2_with (first|go_big_skip|(refine wpList_srfb (b':=true) HW HK rfl _ _ rfl rfl rfl ?_;intro W1 _ HW' HK';replace HW:=HW';replace HK:=HK';clear HW' HK'))
  go_ret
  exact⟨0,a1,true,rfl,HQ.out,u1,Rof.mk HW.out HK.out,hm⟩
 by_cases h2:m<v
 ·have HQ:=zH (HQ1.out.cnt_no (m:=m) (.inr h2))
  go_wp2_with (first|go_big_skip|(refine wpList_srfb (b':=true) HW HK rfl _ _ rfl rfl rfl ?_;intro W1 _ HW' HK';replace HW:=HW';replace HK:=HK';clear HW' HK'))
  go_ret
  exact⟨0,a1,true,rfl,HQ.out,u1,Rof.mk HW.out HK.out,hm⟩
 obtain⟨N,rfl⟩:=Int.eq_ofNat_of_zero_le (show 0≤v by omega)
 have HQ:=zH (HQ1.out.cnt_yes (m:=m) (by omega))
 go_wp2_with (first|go_big_skip)
 go_ret
 exact⟨N,a1,b1,rfl,HQ.out,u1,Rof.mk HW.out HK.out,by omega⟩
theorem rfflag_any(a:Nat)(b:Bool)(w:World)(h:Rdf g A n c l a b w)(ha:a≤100000):Calls Tryz.prog 109 #[.pointer (some ⟨g,0,none⟩)] w (Rq Snp.flag 1 (fun x=>.bool x) g A n c l a b w):=by
 have HM_:=zH (rfmany_any g A n c l 1 (by decide))
 have HW:=zH (Rsf.start h)
 have HK:=zH (Kn.start w)
 clear h
 go_enter Tryz.func109,Tryz.ntmps109
 go_wp2_with fail
 refine(HM_.out _ _ _ (HW.out.at HK.out) (by omega)).mono ?_;rintro e w1 ⟨v,a1,b1,rfl,q1,u1,hk,_⟩;obtain⟨W1,HW1,HK1⟩:=hk.join HW.out HK.out;replace HW:=HW1;replace HK:=HK1;have HQ1:=zH q1;clear HW1 HK1 hk q1;simp only[List.append_nil] at HK
 have hb:((v:Int)==1)=decide (v=1):=by
  rw[Bool.eq_iff_iff]
  simp
  omega
 have HQ:=zH ((HQ1.out.map fun x=>decide (x=1)).to (q:=Snp.flag) (by rw[Snp.flag_cnt]))
 generalize decide (v=1)=d at *
 go_wp2_with fail
 go_ret
 exact⟨d,a1,b1,rfl,HQ.out,u1,Rof.mk HW.out HK.out⟩
theorem rfval_any(hf:Snp.Fit l)(a:Nat)(b:Bool)(w:World)(h:Rdf g A n c l a b w)(ha:a≤100000):Calls Tryz.prog 108 #[.pointer (some ⟨g,0,none⟩)] w (Rq Snp.val 2 vv g A n c l a b w):=by
 have HI:Hid (∀W,Rdf g A n c l a b W→Calls Tryz.prog 177 #[.slice A n c,.int .i64 (a:Int)] W (IsRv l a W)):=zH fun W h=>rffrom_any A n c a l W (h.rd.more (Nat.le_of_lt h.kb.lt)) h.ln hf (by omega)
 have HW:=zH (Rsf.start h)
 have HK:=zH (Kn.start w)
 clear h hf
 go_enter Tryz.func108,Tryz.ntmps108
 go_wp2_with (first|(refine wpList_akv HK rfl rfl ?_;intro _ g1 HK';simp only[lcA,lnA] at HK';replace HK:=HK';clear HK'))
 have HK0:=zH HK.out.drew
 refine wp_region_held_drew (S:=(fun W=>Hid (Kn w.heap.size w W [(g1,26,vC 0 0 0 ⟨#[]⟩)] []))) (by kernel_rfl) ?_ (fun hHeld=>?_)
 ·(try dsimp only);exact zH HK.out.drew
 refine stk 0 7 rfl ?_
 refine stk 1 8 rfl ?_
 refine stk 2 9 rfl ?_
 refine stk 3 10 rfl ?_ (fun w hSw=>exec_rfs HW hSw _ (by rfl) (by rfl))
 refine stk 4 11 rfl ?_
 refine stk 5 12 rfl ?_
 refine stk 6 13 rfl ?_
 refine stk 7 14 rfl ?_ (fun w hSw=>exec_rfa HW hSw _ (by rfl) (by rfl))
 refine srd2 8 (some 15) 13 (some 3) rfl rfl (fun K hK=>?_) (fun K hK=>?_)
 go_simp
 go_at_call 177
 refine(HI.out _ (HW.out.at HK0.out)).mono ?_;rintro e w5 ⟨v,a1,ok,rfl,f1,f2,b5⟩;replace HK0:=zH (HK0.out.call b5);have HF1:=zH f1;have HF2:=zH f2;clear b5 f1 f2;have hs:=zH (HK0.out.takeL 1)
 refine hK.out _ _ hs (fun hHeld=>?_)
 clear hK K
 try simp only[ap1,ap2,ap3,ap4,ap5]
 refine stk 9 6 rfl ?_
 refine stk 10 16 rfl ?_
 refine stk 11 17 rfl ?_
 refine stk 12 18 rfl ?_
 refine srd1 13 (some 3) rfl (fun K hK=>?_)
 refine step_akv2 HK0 (by rfl) (by rfl) ?_;intro _ g2 HK';simp only[lcA,lnA] at HK';replace HK0:=HK';clear HK';have hs:=zH (HK0.out.takeL 1)
 refine hK.out _ _ hs (fun hHeld=>?_)
 clear hK K
 try simp only[ap1,ap2,ap3,ap4,ap5]
 refine srd1 14 none rfl (fun K hK=>?_)
 refine step_sv2 (k2:=v.k) (n2:=v.n) (f2:=v.f) (s2:=v.s) HK0 1 (by rfl) _ _ (by rfl) (by rfl) (by rfl) (by rfl) ?_;intro _ HK';simp only[List.set] at HK';replace HK0:=HK';clear HK';have hs:=zH (HK0.out.takeL 1)
 refine hK.out _ _ hs (fun hHeld=>?_)
 clear hK K
 try simp only[ap1,ap2,ap3,ap4,ap5]
 refine stk 15 4 rfl ?_
 refine stk 16 5 rfl ?_
 refine wpAnyH_done (by kernel_rfl) ?_ _
 rotate_left
 refine step_akv2 HK0 (by rfl) (by rfl) ?_;intro _ g2 HK';simp only[lcA,lnA] at HK';replace HK0:=HK';clear HK';have hs:=zH (HK0.out.takeL 1)
 refine hK.out _ _ hs (fun hHeld=>?_)
 clear hK K
 try simp only[ap1,ap2,ap3,ap4,ap5]
 refine srd1 8 (some 15) rfl (fun K hK=>?_)
 go_simp
 go_at_call 177
 refine(HI.out _ (HW.out.at HK0.out)).mono ?_;rintro e w5 ⟨v,a1,ok,rfl,f1,f2,b5⟩;replace HK0:=zH (HK0.out.call b5);have HF1:=zH f1;have HF2:=zH f2;clear b5 f1 f2;have hs:=zH (HK0.out.takeL 1)
 refine hK.out _ _ hs (fun hHeld=>?_)
 clear hK K
 try simp only[ap1,ap2,ap3,ap4,ap5]
 refine stk 9 6 rfl ?_
 refine stk 10 16 rfl ?_
 refine stk 11 17 rfl ?_
 refine stk 12 18 rfl ?_
 refine srd1 14 none rfl (fun K hK=>?_)
 refine step_sv2 (k2:=v.k) (n2:=v.n) (f2:=v.f) (s2:=v.s) HK0 1 (by rfl) _ _ (by rfl) (by rfl) (by rfl) (by rfl) ?_;intro _ HK';simp only[List.set] at HK';replace HK0:=HK';clear HK';have hs:=zH (HK0.out.takeL 1)
 refine hK.out _ _ hs (fun hHeld=>?_)
 clear hK K
 try simp only[ap1,ap2,ap3,ap4,ap5]
 refine stk 15 4 rfl ?_
 refine stk 16 5 rfl ?_
 refine wpAnyH_done (by kernel_rfl) ?_ _
 rotate_left
 all_goals
  have HK1:=HK0
  clear HK HK0 HI hHeld
  have HK:=HK1
  clear HK1
  cases ok
  ·have HQ:Hid (Snp.Q Snp.val l a b v a true):=zH ⟨(fun e=>by cases e),fun e hn=>absurd (HF2.out rfl) hn⟩
   clear HF1 HF2
   go_wp2_with (first|go_big_skip|(refine wpList_srfb (b':=true) HW HK rfl _ _ rfl rfl rfl ?_;intro W1 _ HW' HK';replace HW:=HW';replace HK:=HK';clear HW' HK')|refine zX (kexec_vv HK 1 _ (by rfl) (by rfl) (by rfl)) ?_|(refine wpList_sv (k2:=v.k) (n2:=v.n) (f2:=v.f) (s2:=v.s) HK 0 rfl _ _ rfl rfl rfl rfl ?_;intro _ HK';simp only[List.set] at HK';replace HK:=HK';clear HK'))
   exact ret_v Tryz.results108 rfl rfl (HK.out.blk 0 rfl) ⟨v,a,true,rfl,HQ.out,by omega,Rof.mk HW.out HK.out⟩
  ·obtain⟨f1,f2,f3⟩:=HF1.out rfl
   have HQ:Hid (Snp.Q Snp.val l a b v a1 b):=zH ⟨fun e=>⟨e,f1,f2⟩,fun e _=>e⟩
   clear HF1 HF2 f1 f2
   go_wp2_with (first|go_big_skip|(refine wpList_srfa (a':=a1) HW HK rfl _ _ rfl rfl rfl ?_;intro W1 _ HW' HK';replace HW:=HW';replace HK:=HK';clear HW' HK')|refine zX (kexec_vv HK 1 _ (by rfl) (by rfl) (by rfl)) ?_|(refine wpList_sv (k2:=v.k) (n2:=v.n) (f2:=v.f) (s2:=v.s) HK 0 rfl _ _ rfl rfl rfl rfl ?_;intro _ HK';simp only[List.set] at HK';replace HK:=HK';clear HK'))
   exact ret_v Tryz.results108 rfl rfl (HK.out.blk 0 rfl) ⟨v,a1,b,rfl,HQ.out,f3,Rof.mk HW.out HK.out⟩
theorem rfse_any(hf:Snp.Fit l)(a:Nat)(b:Bool)(w:World)(h:Rdf g A n c l a b w)(ha:a≤90000):Calls Tryz.prog 56 #[.pointer (some ⟨g,0,none⟩)] w (Rq Snp.seP 7 (fun s=>.agg (seA s)) g A n c l a b w):=by
 have HN_:=zH (rfnum_any g A n c l)
 have HF_:=zH (rfflag_any g A n c l)
 have HV_:=zH (rfval_any g A n c l hf)
 have HW:=zH (Rsf.start h)
 have HK:=zH (Kn.start w)
 clear h hf
 go_enter Tryz.func56,Tryz.ntmps56
 go_wp2_with (first|(refine wpList_ase HK rfl rfl ?_;intro _ g1 HK';simp only[lnA] at HK';replace HK:=HK';clear HK'))
 refine(HF_.out _ _ _ (HW.out.at HK.out) (by omega)).mono ?_;rintro e w1 ⟨x1,a1,b1,rfl,q1,u1,hk⟩;obtain⟨W1,HW1,HK1⟩:=hk.join HW.out HK.out;replace HW:=HW1;replace HK:=HK1;have HQ1:=zH q1;clear HW1 HK1 hk q1;simp only[List.append_nil] at HK
 go_wp2_with fail
 refine(HN_.out _ _ _ (HW.out.at HK.out) (by omega)).mono ?_;rintro e w1 ⟨x2,a2,b2,rfl,q1,u2,hk⟩;obtain⟨W1,HW1,HK1⟩:=hk.join HW.out HK.out;replace HW:=HW1;replace HK:=HK1;have HQ2:=zH q1;clear HW1 HK1 hk q1;simp only[List.append_nil] at HK
 go_wp2_with fail
 refine(HN_.out _ _ _ (HW.out.at HK.out) (by omega)).mono ?_;rintro e w1 ⟨x3,a3,b3,rfl,q1,u3,hk⟩;obtain⟨W1,HW1,HK1⟩:=hk.join HW.out HK.out;replace HW:=HW1;replace HK:=HK1;have HQ3:=zH q1;clear HW1 HK1 hk q1;simp only[List.append_nil] at HK
 go_wp2_with fail
 refine(HF_.out _ _ _ (HW.out.at HK.out) (by omega)).mono ?_;rintro e w1 ⟨x4,a4,b4,rfl,q1,u4,hk⟩;obtain⟨W1,HW1,HK1⟩:=hk.join HW.out HK.out;replace HW:=HW1;replace HK:=HK1;have HQ4:=zH q1;clear HW1 HK1 hk q1;simp only[List.append_nil] at HK
 go_wp2_with fail
 refine(HN_.out _ _ _ (HW.out.at HK.out) (by omega)).mono ?_;rintro e w1 ⟨x5,a5,b5,rfl,q1,u5,hk⟩;obtain⟨W1,HW1,HK1⟩:=hk.join HW.out HK.out;replace HW:=HW1;replace HK:=HK1;have HQ5:=zH q1;clear HW1 HK1 hk q1;simp only[List.append_nil] at HK
 go_wp2_with fail
 refine(HV_.out _ _ _ (HW.out.at HK.out) (by omega)).mono ?_;rintro e w1 ⟨x6,a6,b6,rfl,q1,u6,hk⟩;obtain⟨W1,HW1,HK1⟩:=hk.join HW.out HK.out;replace HW:=HW1;replace HK:=HK1;have HQ6:=zH q1;clear HW1 HK1 hk q1;simp only[List.append_nil] at HK
 unfold vv
 go_wp2_with (first|(refine wpList_sse (u:=⟨x1,x2,x3,x4,⟨x5,x6⟩⟩) HK 0 rfl _ _ rfl rfl rfl rfl ?_;intro _ HK';simp only[List.set] at HK';replace HK:=HK';clear HK'))
 exact ret_se Tryz.results56 rfl rfl (HK.out.blk 0 rfl) ⟨⟨x1,x2,x3,x4,⟨x5,x6⟩⟩,a6,b6,rfl,Snp.Q.bnd HQ1.out (Snp.Q.bnd HQ2.out (Snp.Q.bnd HQ3.out (Snp.Q.bnd HQ4.out (Snp.Q.bnd HQ5.out (Snp.Q.bnd HQ6.out (Snp.Q.ret _ HQ6.out.le)))))),by omega,Rof.mk HW.out HK.out⟩
end
end
end Go.Proofs.YtieoeendnccafaaGreat
