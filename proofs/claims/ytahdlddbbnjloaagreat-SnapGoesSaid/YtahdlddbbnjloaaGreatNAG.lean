/- What value.Check and the document's own Check return, as XValMath's reckoning of whether a value may be. No condition but those named. -/
import Derived.Test.YtahdlddbbnjloaaGreatNAA
set_option linter.unusedSimpArgs false
set_option linter.unusedVariables false
set_option maxRecDepth 100000
set_option maxHeartbeats 25600000
open Go.RowKit
namespace Go.Proofs.YtahdlddbbnjloaaGreat
open _root_.Go.Proofs.Tryz
section
def vv(v:Val.V):Value:=.agg #[.int .i64 v.k,.int .i64 v.n,.int .u64 (v.f:Int),.string v.s]
def gN(b1 b2 b3 ok:Bool)(w:World)(e:Ending)(w':World):Prop:=
 e=.returned (.tuple #[.agg #[.bool b1,.bool b2,.bool b3],.bool ok])∧Below w.heap.size w w'
theorem Lv(w:World):Calls prog 109 #[.int .i64 0] w (gN false false false true w):=by
 go_enter func109,ntmps109;go_wp2;exact bodyPost_ret (v:=.tuple #[.agg #[.bool false,.bool false,.bool false],.bool true]) (by simp[results,results109,go_sem]) rfl ⟨rfl,by go_grown⟩
theorem Lu(w:World):Calls prog 109 #[.int .i64 1] w (gN true false false true w):=by
 go_enter func109,ntmps109;go_wp2;exact bodyPost_ret (v:=.tuple #[.agg #[.bool true,.bool false,.bool false],.bool true]) (by simp[results,results109,go_sem]) rfl ⟨rfl,by go_grown⟩
theorem Ls(w:World):Calls prog 109 #[.int .i64 2] w (gN false true false true w):=by
 go_enter func109,ntmps109;go_wp2;exact bodyPost_ret (v:=.tuple #[.agg #[.bool false,.bool true,.bool false],.bool true]) (by simp[results,results109,go_sem]) rfl ⟨rfl,by go_grown⟩
theorem Lr(w:World):Calls prog 109 #[.int .i64 3] w (gN false false true true w):=by
 go_enter func109,ntmps109;go_wp2;exact bodyPost_ret (v:=.tuple #[.agg #[.bool false,.bool false,.bool true],.bool true]) (by simp[results,results109,go_sem]) rfl ⟨rfl,by go_grown⟩
theorem Lp(k:Int)(w:World)(h:k<0∨3<k:=by omega):Calls prog 109 #[.int .i64 k] w (gN false false false false w):=by
 have h0:¬k=0:=by omega
 have h1:¬k=1:=by omega
 have h2:¬k=2:=by omega
 have h3:¬k=3:=by omega
 clear h;go_enter func109,ntmps109;go_wp2;exact bodyPost_ret (v:=.tuple #[.agg #[.bool false,.bool false,.bool false],.bool false]) (by simp[results,results109,go_sem]) rfl ⟨rfl,by go_grown⟩
theorem LJ{k:Int}{b1 b2 b3:Bool}(h:(k=0∧b1=false∧b2=false∧b3=false)∨(k=1∧b1=true∧b2=false∧b3=false)∨(k=2∧b1=false∧b2=true∧b3=false)∨(k=3∧b1=false∧b2=false∧b3=true))(w:World):
  Calls prog 109 #[.int .i64 k] w (gN b1 b2 b3 true w):=by
 rcases h with ⟨rfl,rfl,rfl,rfl⟩|⟨rfl,rfl,rfl,rfl⟩|⟨rfl,rfl,rfl,rfl⟩|⟨rfl,rfl,rfl,rfl⟩
 ·exact Lv w
 ·exact Lu w
 ·exact Ls w
 ·exact Lr w
theorem Ca{B:Nat}{w:World}{n:Nat}:Below B w (w.drewN n):=⟨rfl,rfl,rfl,Nat.le_refl _,fun _ _=>rfl⟩
def iQ(x:Int)(w:World)(e:Ending)(w':World):Prop:=e=.returned (.int .i64 x)∧Below w.heap.size w w'
theorem ajv{w:World}{a b c d:Value}{ty:TypeId}{w1:World}(h:Below (w.heap.size+1) (w.alloc (.cells #[a,b,c,d] ty)) w1:=by simpa using b1):
  w1.cell? ⟨w.heap.size,0,none⟩=some a∧w1.cell? ⟨w.heap.size,1,none⟩=some b∧w1.cell? ⟨w.heap.size,2,none⟩=some c∧w1.cell? ⟨w.heap.size,3,none⟩=some d∧w.heap.size<w1.heap.size:=by
 have hs:=h.size;simp at hs;refine⟨?_,?_,?_,?_,by omega⟩<;>(rw[h.cell (by simp),World.cell?_alloc_new];rfl)
theorem BU{w:World}{a b c d:Value}{ty:TypeId}{w1:World}(h:Below (w.heap.size+1) (w.alloc (.cells #[a,b,c,d] ty)) w1:=by simpa using b1):Below w.heap.size w w1:=
 ((Below.refl _ w).alloc (Nat.le_refl _) _).trans (h.mono (by omega))
section
variable (k n:Int)(f:Nat)(s:ByteArray)(w:World)(b1 b2 b3:Bool)
theorem abC(hN:∀w,Calls prog 109 #[.int .i64 k] w (gN false b2 b3 true w))(hn:(n != 0)=true):
  Calls prog 147 #[.agg #[.int .i64 k,.int .i64 n,.int .u64 (f:Int),.string s]] w (iQ 1 w):=by
 have HN:=zH hN;clear hN;exact YI
theorem abG(hN:∀w,Calls prog 109 #[.int .i64 k] w (gN b1 false b3 true w))(hn:(n != 0)=false∨((n != 0)=true∧b1=true))(hf0:((f:Int) != 0)=true):
  Calls prog 147 #[.agg #[.int .i64 k,.int .i64 n,.int .u64 (f:Int),.string s]] w (iQ 1 w):=by
 have HN:=zH hN;clear hN
 rcases hn with hn|⟨hn,rfl⟩
 all_goals
  exact YI
theorem abB(hN:∀w,Calls prog 109 #[.int .i64 k] w (gN b1 b2 false true w))(hn:(n != 0)=false∨((n != 0)=true∧b1=true))(hf0:((f:Int) != 0)=false∨(((f:Int) != 0)=true∧b2=true))(hs:s.toList.isEmpty=false)(_hs2:¬s.toList=[]):
  Calls prog 147 #[.agg #[.int .i64 k,.int .i64 n,.int .u64 (f:Int),.string s]] w (iQ 1 w):=by
 have HN:=zH hN;clear hN
 rcases hn with hn|⟨hn,rfl⟩<;>rcases hf0 with hf0|⟨hf0,rfl⟩
 all_goals
  exact YI
theorem abD(hN:∀w,Calls prog 109 #[.int .i64 k] w (gN b1 b2 b3 true w))(hn:(n != 0)=false∨((n != 0)=true∧b1=true))(hf0:((f:Int) != 0)=false∨(((f:Int) != 0)=true∧b2=true))(hs:(s.toList.isEmpty=true∧s.toList=[])∨(s.toList.isEmpty=false∧¬s.toList=[]∧b3=true))(hf:f<18446744073709551616)(hm:((Num.M f:Int) != (f:Int))=true):
  Calls prog 147 #[.agg #[.int .i64 k,.int .i64 n,.int .u64 (f:Int),.string s]] w (iQ 1 w):=by
 have HN:=zH hN;clear hN;have HM:Hid (∀w,Calls prog 145 #[.int .u64 (f:Int)] w fun e w'=>e=.returned (.int .u64 (Num.M f:Nat))∧w'=w):=zH fun w=>(mW f w hf).mono fun e w' ⟨h1,h2⟩=>⟨h1,h2.symm⟩
 clear hf
 rcases hn with hn|⟨hn,rfl⟩<;>rcases hf0 with hf0|⟨hf0,rfl⟩<;>rcases hs with ⟨hs,hs2⟩|⟨hs,hs2,rfl⟩
 all_goals
  exact ael
theorem abE(hN:∀w,Calls prog 109 #[.int .i64 k] w (gN b1 b2 b3 true w))(hn:(n != 0)=false∨((n != 0)=true∧b1=true))(hf0:((f:Int) != 0)=false∨(((f:Int) != 0)=true∧b2=true))(hs:(s.toList.isEmpty=true∧s.toList=[])∨(s.toList.isEmpty=false∧¬s.toList=[]∧b3=true))(hf:f<18446744073709551616)(hm:((Num.M f:Int) != (f:Int))=false)(hl:64<(s.size:Int)):
  Calls prog 147 #[.agg #[.int .i64 k,.int .i64 n,.int .u64 (f:Int),.string s]] w (iQ 2 w):=by
 have HN:=zH hN;clear hN;have HM:Hid (∀w,Calls prog 145 #[.int .u64 (f:Int)] w fun e w'=>e=.returned (.int .u64 (Num.M f:Nat))∧w'=w):=zH fun w=>(mW f w hf).mono fun e w' ⟨h1,h2⟩=>⟨h1,h2.symm⟩
 clear hf
 rcases hn with hn|⟨hn,rfl⟩<;>rcases hf0 with hf0|⟨hf0,rfl⟩<;>rcases hs with ⟨hs,hs2⟩|⟨hs,hs2,rfl⟩
 all_goals
  exact ael
theorem abF(hN:∀w,Calls prog 109 #[.int .i64 k] w (gN b1 b2 b3 true w))(hn:(n != 0)=false∨((n != 0)=true∧b1=true))(hf0:((f:Int) != 0)=false∨(((f:Int) != 0)=true∧b2=true))(hs:(s.toList.isEmpty=true∧s.toList=[])∨(s.toList.isEmpty=false∧¬s.toList=[]∧b3=true))(hf:f<18446744073709551616)(hm:((Num.M f:Int) != (f:Int))=false)(hl:¬64<(s.size:Int)):
  Calls prog 147 #[.agg #[.int .i64 k,.int .i64 n,.int .u64 (f:Int),.string s]] w (iQ 0 w):=by
 have HN:=zH hN;clear hN;have HM:Hid (∀w,Calls prog 145 #[.int .u64 (f:Int)] w fun e w'=>e=.returned (.int .u64 (Num.M f:Nat))∧w'=w):=zH fun w=>(mW f w hf).mono fun e w' ⟨h1,h2⟩=>⟨h1,h2.symm⟩
 clear hf
 rcases hn with hn|⟨hn,rfl⟩<;>rcases hf0 with hf0|⟨hf0,rfl⟩<;>rcases hs with ⟨hs,hs2⟩|⟨hs,hs2,rfl⟩
 all_goals
  exact ael
end
end
section
theorem vD{s:ByteArray}(h:s.size=0):s.toList.isEmpty=true∧s.toList=[]:=by
 rw[Val.mg h,ByteArray.toList_eq];exact uw
theorem mF{s:ByteArray}(h:¬s.size=0):s.toList.isEmpty=false∧¬s.toList=[]:=by
 have h2:¬s.toList=[]:=fun e=>h (by
  rw[ByteArray.toList_eq] at e;have:s.data.toList.length=0:=by rw[e];rfl
  rw[Array.length_toList] at this;exact this)
 exact⟨by cases hl:s.toList with|nil=>exact absurd hl h2|cons a r=>rfl,h2⟩
theorem kX{x y:Int}(h:¬x=y:=by omega):(x != y)=true:=by simpa using h
theorem su{x y:Int}(h:x=y:=by omega):(x != y)=false:=by simpa using h
theorem tY(v:Val.V)(w:World)(hf:v.f<18446744073709551616):Calls prog 147 #[vv v] w (iQ (Val.aX v) w):=by
 obtain⟨k,n,f,s⟩:=v
 show Calls prog 147 #[.agg #[.int .i64 k,.int .i64 n,.int .u64 (f:Int),.string s]] w (iQ (Val.aX ⟨k,n,f,s⟩) w)
 simp only at hf;by_cases hk:k<0∨3<k
 ·rw[show Val.aX ⟨k,n,f,s⟩=1 from if_pos hk]
  have HN:=zH (fun w=>Lp k w (h:=hk));clear hk hf;exact YI
 ·obtain⟨b1,b2,b3,hb⟩:∃b1 b2 b3,(k=0∧b1=false∧b2=false∧b3=false)∨(k=1∧b1=true∧b2=false∧b3=false)∨(k=2∧b1=false∧b2=true∧b3=false)∨(k=3∧b1=false∧b2=false∧b3=true):=by
   have:k=0∨k=1∨k=2∨k=3:=by omega
   rcases this with h|h|h|h
   ·exact⟨_,_,_,.inl ⟨h,rfl,rfl,rfl⟩⟩
   ·exact⟨_,_,_,.inr (.inl ⟨h,rfl,rfl,rfl⟩)⟩
   ·exact⟨_,_,_,.inr (.inr (.inl ⟨h,rfl,rfl,rfl⟩))⟩
   ·exact⟨_,_,_,.inr (.inr (.inr ⟨h,rfl,rfl,rfl⟩))⟩
  have hN:=LJ hb;have e1:b1=true↔k=1:=by rcases hb with ⟨rfl,rfl,rfl,rfl⟩|⟨rfl,rfl,rfl,rfl⟩|⟨rfl,rfl,rfl,rfl⟩|⟨rfl,rfl,rfl,rfl⟩<;>simp
  have e2:b2=true↔k=2:=by rcases hb with ⟨rfl,rfl,rfl,rfl⟩|⟨rfl,rfl,rfl,rfl⟩|⟨rfl,rfl,rfl,rfl⟩|⟨rfl,rfl,rfl,rfl⟩<;>simp
  have e3:b3=true↔k=3:=by rcases hb with ⟨rfl,rfl,rfl,rfl⟩|⟨rfl,rfl,rfl,rfl⟩|⟨rfl,rfl,rfl,rfl⟩|⟨rfl,rfl,rfl,rfl⟩<;>simp
  clear hb;unfold Val.aX;simp only;rw[if_neg hk];by_cases h1:n≠0∧k≠1
  ·rw[if_pos h1]
   obtain rfl:b1=false:=by rw[← Bool.not_eq_true,e1];exact h1.2
   exact abC k n f s w b2 b3 hN (kX (h:=h1.1))
  ·rw[if_neg h1]
   have q1:(n != 0)=false∨((n != 0)=true∧b1=true):=by
    by_cases h:n=0
    ·exact .inl (su (h:=h))
    ·exact .inr ⟨kX (h:=h),e1.2 (Decidable.byContradiction fun h2=>h1 ⟨h,h2⟩)⟩
   by_cases h2:f≠0∧k≠2
   ·rw[if_pos h2]
    obtain rfl:b2=false:=by rw[← Bool.not_eq_true,e2];exact h2.2
    exact abG k n f s w b1 b3 hN q1 (kX)
   ·rw[if_neg h2]
    have q2:((f:Int) != 0)=false∨(((f:Int) != 0)=true∧b2=true):=by
     by_cases h:f=0
     ·exact .inl (su)
     ·exact .inr ⟨kX,e2.2 (Decidable.byContradiction fun h3=>h2 ⟨h,h3⟩)⟩
    by_cases h3:s.size≠0∧k≠3
    ·rw[if_pos h3]
     obtain rfl:b3=false:=by rw[← Bool.not_eq_true,e3];exact h3.2
     exact abB k n f s w b1 b2 hN q1 q2 (mF h3.1).1 (mF h3.1).2
    ·rw[if_neg h3]
     have q3:(s.toList.isEmpty=true∧s.toList=[])∨(s.toList.isEmpty=false∧¬s.toList=[]∧b3=true):=by
      by_cases h:s.size=0
      ·exact .inl (vD h)
      ·exact .inr ⟨(mF h).1,(mF h).2,e3.2 (Decidable.byContradiction fun h4=>h3 ⟨h,h4⟩)⟩
     by_cases h4:Num.M f≠f
     ·rw[if_pos h4]
      exact abD k n f s w b1 b2 b3 hN q1 q2 q3 hf (kX)
     ·rw[if_neg h4]
      by_cases h5:64<s.size
      ·rw[if_pos h5]
       exact abE k n f s w b1 b2 b3 hN q1 q2 q3 hf (su) (by omega)
      ·rw[if_neg h5]
       exact abF k n f s w b1 b2 b3 hN q1 q2 q3 hf (su) (by omega)
section
variable (n:Int)(f:Nat)(s:ByteArray)(w:World)
theorem zJ(x:Int)(o:Obj):iQ x w (.returned (.int .i64 x)) (w.alloc o):=⟨rfl,(Below.refl _ w).alloc (Nat.le_refl _) _⟩
theorem Zx:Calls prog 86 #[.agg #[.int .i64 0,.int .i64 n,.int .u64 (f:Int),.string s]] w (iQ (if n=0∧f=0∧s.size=0 then 0 else 1) w):=by
 have HX:=zH (fun x o=>zJ w x o);by_cases h:n=0∧f=0∧s.size=0
 ·rw[if_pos h]
  obtain⟨rfl,rfl,hs⟩:=h;obtain⟨h1,h2⟩:=vD hs;clear hs;exact Sb
 ·rw[if_neg h]
  by_cases hn:n=0
  ·subst hn
   by_cases hf:f=0
   ·subst hf
    obtain⟨h1,h2⟩:=mF (fun hs=>h ⟨rfl,rfl,hs⟩);clear h;exact Sb
   ·clear h
    have h1:((f:Int)==0)=false:=by simpa using hf
    have h2:¬(f:Int)=0:=by omega
    exact Sb
  ·clear h
   have h1:(n==0)=false:=by simpa using hn
   exact Sb
theorem Zw:Calls prog 86 #[.agg #[.int .i64 1,.int .i64 n,.int .u64 (f:Int),.string s]] w (iQ (if f=0∧s.size=0 then 0 else 1) w):=by
 have HX:=zH (fun x o=>zJ w x o);by_cases hf:f=0
 ·subst hf
  by_cases hs:s.size=0
  ·rw[if_pos ⟨rfl,hs⟩]
   obtain⟨h1,h2⟩:=vD hs;clear hs;exact Sb
  ·rw[if_neg (fun h=>hs h.2)]
   obtain⟨h1,h2⟩:=mF hs;clear hs;exact Sb
 ·rw[if_neg (fun h=>hf h.1)]
  have h1:((f:Int) != 0)=true:=kX;exact Sb
theorem Zv(hf:f<18446744073709551616):Calls prog 86 #[.agg #[.int .i64 2,.int .i64 n,.int .u64 (f:Int),.string s]] w (iQ (if n=0∧s.size=0∧Num.M f=f then 0 else 1) w):=by
 have HX:Hid (∀x o m,iQ x w (.returned (.int .i64 x)) ((w.alloc o).drewN m)):=zH fun x o m=>⟨rfl,((Below.refl _ w).alloc (Nat.le_refl _) o).trans (Ca (n:=m))⟩
 have HM:Hid (∀w,Calls prog 127 #[.int .u64 (f:Int)] w fun e w'=>e=.returned (.int .u64 (Num.M f:Nat))∧w'=w):=zH fun w=>(gT f w hf).mono fun e w' ⟨h1,h2⟩=>⟨h1,h2.symm⟩
 clear hf;by_cases hn:n=0
 ·subst hn
  by_cases hs:s.size=0
  ·obtain⟨h1,h2⟩:=vD hs
   by_cases hm:Num.M f=f
   ·rw[if_pos ⟨rfl,hs,hm⟩]
    rw[hm] at HM;have h3:((f:Int) != (f:Int))=false:=su (h:=rfl);clear hm hs;exact YG
   ·rw[if_neg (fun h=>hm h.2.2)]
    have h3:((f:Int) != (Num.M f:Int))=true:=kX;clear hm hs;exact YG
  ·rw[if_neg (fun h=>hs h.2.1)]
   obtain⟨h1,h2⟩:=mF hs;clear hs;exact YG
 ·rw[if_neg (fun h=>hn h.1)]
  have h1:(n != 0)=true:=kX (h:=hn);exact YG
theorem Zu:Calls prog 86 #[.agg #[.int .i64 3,.int .i64 n,.int .u64 (f:Int),.string s]] w (iQ (if n=0∧f=0 then (if 64<s.size then 2 else 0) else 1) w):=by
 have HX:=zH (fun x o=>zJ w x o);by_cases hn:n=0
 ·subst hn
  by_cases hf:f=0
  ·subst hf
   rw[if_pos ⟨rfl,rfl⟩];by_cases hs:64<s.size
   ·rw[if_pos hs]
    have h1:64<(s.size:Int):=by omega
    exact Sb
   ·rw[if_neg hs]
    have h1:¬64<(s.size:Int):=by omega
    exact Sb
  ·rw[if_neg (fun h=>hf h.2)]
   have h1:((f:Int) != 0)=true:=kX;exact Sb
 ·rw[if_neg (fun h=>hn h.1)]
  have h1:(n != 0)=true:=kX (h:=hn);exact Sb
theorem Zt(k:Int)(h:k<0∨3<k):Calls prog 86 #[.agg #[.int .i64 k,.int .i64 n,.int .u64 (f:Int),.string s]] w (iQ 1 w):=by
 have HX:=zH (fun x o=>zJ w x o);have h0:¬k=0:=by omega
 have h1:¬k=1:=by omega
 have h2:¬k=2:=by omega
 have h3:¬k=3:=by omega
 clear h;exact Sb
end
theorem bK(v:Val.V)(w:World)(hf:v.f<18446744073709551616):Calls prog 86 #[vv v] w (iQ (Val.aX v) w):=by
 obtain⟨k,n,f,s⟩:=v
 show Calls prog 86 #[.agg #[.int .i64 k,.int .i64 n,.int .u64 (f:Int),.string s]] w (iQ (Val.aX ⟨k,n,f,s⟩) w)
 simp only at hf;have fit:∀{x y:Int},x=y→Calls prog 86 #[.agg #[.int .i64 k,.int .i64 n,.int .u64 (f:Int),.string s]] w (iQ x w)→Calls prog 86 #[.agg #[.int .i64 k,.int .i64 n,.int .u64 (f:Int),.string s]] w (iQ y w):=fun h=>h▸id
 by_cases hk:k<0∨3<k
 ·exact fit (if_pos hk).symm (Zt n f s w k hk)
 ·have:k=0∨k=1∨k=2∨k=3:=by omega
  rcases this with rfl|rfl|rfl|rfl
  ·refine fit ?_ (Zx n f s w)
   unfold Val.aX;simp only;by_cases h1:n=0
   ·by_cases h2:f=0
    ·by_cases h3:s.size=0
     ·subst h1 h2
      rw[if_pos ⟨rfl,rfl,h3⟩,if_neg (by decide),if_neg (by simp),if_neg (by simp),if_neg (fun h=>h.1 h3),if_neg (by rw[Val.FJ];simp),if_neg (by omega)]
     ·subst h1 h2
      rw[if_neg (fun h=>h3 h.2.2),if_neg (by decide),if_neg (by simp),if_neg (by simp),if_pos ⟨h3,by decide⟩]
    ·subst h1
     rw[if_neg (fun h=>h2 h.2.1),if_neg (by decide),if_neg (by simp),if_pos ⟨h2,by decide⟩]
   ·rw[if_neg (fun h=>h1 h.1),if_neg (by decide),if_pos ⟨h1,by decide⟩]
  ·refine fit ?_ (Zw n f s w)
   unfold Val.aX;simp only;by_cases h2:f=0
   ·subst h2
    by_cases h3:s.size=0
    ·rw[if_pos ⟨rfl,h3⟩,if_neg (by decide),if_neg (by simp),if_neg (by simp),if_neg (fun h=>h.1 h3),if_neg (by rw[Val.FJ];simp),if_neg (by omega)]
    ·rw[if_neg (fun h=>h3 h.2),if_neg (by decide),if_neg (by simp),if_neg (by simp),if_pos ⟨h3,by decide⟩]
   ·rw[if_neg (fun h=>h2 h.1),if_neg (by decide),if_neg (by simp),if_pos ⟨h2,by decide⟩]
  ·refine fit ?_ (Zv n f s w hf)
   unfold Val.aX;simp only;by_cases h1:n=0
   ·subst h1
    by_cases h3:s.size=0
    ·by_cases h4:Num.M f=f
     ·rw[if_pos ⟨rfl,h3,h4⟩,if_neg (by decide),if_neg (by simp),if_neg (by simp),if_neg (fun h=>h.1 h3),if_neg (by simpa using h4),if_neg (by omega)]
     ·rw[if_neg (fun h=>h4 h.2.2),if_neg (by decide),if_neg (by simp),if_neg (by simp),if_neg (fun h=>h.1 h3),if_pos h4]
    ·rw[if_neg (fun h=>h3 h.2.1),if_neg (by decide),if_neg (by simp),if_neg (by simp),if_pos ⟨h3,by decide⟩]
   ·rw[if_neg (fun h=>h1 h.1),if_neg (by decide),if_pos ⟨h1,by decide⟩]
  ·refine fit ?_ (Zu n f s w)
   by_cases h1:n=0
   ·subst h1
    by_cases h2:f=0
    ·subst h2
     rw[if_pos ⟨rfl,rfl⟩,Val.Xl]
    ·unfold Val.aX
     simp only;rw[if_neg (fun h=>h2 h.2),if_neg (by decide),if_neg (by simp),if_pos ⟨h2,by decide⟩]
   ·unfold Val.aX
    simp only;rw[if_neg (fun h=>h1 h.1),if_neg (by decide),if_pos ⟨h1,by decide⟩]
end
end Go.Proofs.YtahdlddbbnjloaaGreat
