/- What value.Check and the document's own Check return, as XValMath's reckoning of whether a value may be. No condition but those named. -/
import Derived.Test.YtieoeendnccafaaGreatNAA
set_option linter.unusedSimpArgs false
set_option linter.unusedVariables false
set_option maxRecDepth 100000
set_option maxHeartbeats 25600000
open Go.RowKit
namespace Go.Proofs.YtieoeendnccafaaGreat
open _root_.Go.Proofs.Tryz
section
theorem vV{s:ByteArray}(h:s.size=0):s.toList.isEmpty=true∧s.toList=[]:=by
 rw[Val.mU h,ByteArray.toList_eq];exact ni
theorem nA{s:ByteArray}(h:¬s.size=0):s.toList.isEmpty=false∧¬s.toList=[]:=by
 have h2:¬s.toList=[]:=fun e=>h (by
  rw[ByteArray.toList_eq] at e;have:s.data.toList.length=0:=by rw[e];rfl
  rw[Array.length_toList] at this;exact this)
 exact⟨by cases hl:s.toList with|nil=>exact absurd hl h2|cons a r=>rfl,h2⟩
theorem lM{x y:Int}(h:¬x=y:=by omega):(x != y)=true:=by simpa using h
theorem sN{x y:Int}(h:x=y:=by omega):(x != y)=false:=by simpa using h
theorem qy(v:Val.V)(w:World)(hf:v.f<18446744073709551616):Calls prog 116 #[vv v] w (gX (Val.bG v) w):=by
 obtain⟨k,n,f,s⟩:=v
 show Calls prog 116 #[.agg #[.int .i64 k,.int .i64 n,.int .u64 (f:Int),.string s]] w (gX (Val.bG ⟨k,n,f,s⟩) w)
 simp only at hf;by_cases hk:k<0∨3<k
 ·rw[show Val.bG ⟨k,n,f,s⟩=1 from if_pos hk]
  have HN:=zH (fun w=>acw k w hk);clear hk hf;exact Xk
 ·obtain⟨b1,b2,b3,hb⟩:∃b1 b2 b3,(k=0∧b1=false∧b2=false∧b3=false)∨(k=1∧b1=true∧b2=false∧b3=false)∨(k=2∧b1=false∧b2=true∧b3=false)∨(k=3∧b1=false∧b2=false∧b3=true):=by
   have:k=0∨k=1∨k=2∨k=3:=by omega
   rcases this with h|h|h|h
   ·exact⟨_,_,_,.inl ⟨h,rfl,rfl,rfl⟩⟩
   ·exact⟨_,_,_,.inr (.inl ⟨h,rfl,rfl,rfl⟩)⟩
   ·exact⟨_,_,_,.inr (.inr (.inl ⟨h,rfl,rfl,rfl⟩))⟩
   ·exact⟨_,_,_,.inr (.inr (.inr ⟨h,rfl,rfl,rfl⟩))⟩
  have hN:=KQ hb;have e1:b1=true↔k=1:=by rcases hb with ⟨rfl,rfl,rfl,rfl⟩|⟨rfl,rfl,rfl,rfl⟩|⟨rfl,rfl,rfl,rfl⟩|⟨rfl,rfl,rfl,rfl⟩<;>simp
  have e2:b2=true↔k=2:=by rcases hb with ⟨rfl,rfl,rfl,rfl⟩|⟨rfl,rfl,rfl,rfl⟩|⟨rfl,rfl,rfl,rfl⟩|⟨rfl,rfl,rfl,rfl⟩<;>simp
  have e3:b3=true↔k=3:=by rcases hb with ⟨rfl,rfl,rfl,rfl⟩|⟨rfl,rfl,rfl,rfl⟩|⟨rfl,rfl,rfl,rfl⟩|⟨rfl,rfl,rfl,rfl⟩<;>simp
  clear hb;unfold Val.bG;simp only;rw[if_neg hk];by_cases h1:n≠0∧k≠1
  ·rw[if_pos h1]
   obtain rfl:b1=false:=by rw[← Bool.not_eq_true,e1];exact h1.2
   exact YJ k n f s w b2 b3 hN (lM (h:=h1.1))
  ·rw[if_neg h1]
   have q1:(n != 0)=false∨((n != 0)=true∧b1=true):=by
    by_cases h:n=0
    ·exact .inl (sN (h:=h))
    ·exact .inr ⟨lM (h:=h),e1.2 (Decidable.byContradiction fun h2=>h1 ⟨h,h2⟩)⟩
   by_cases h2:f≠0∧k≠2
   ·rw[if_pos h2]
    obtain rfl:b2=false:=by rw[← Bool.not_eq_true,e2];exact h2.2
    exact YN k n f s w b1 b3 hN q1 (lM)
   ·rw[if_neg h2]
    have q2:((f:Int) != 0)=false∨(((f:Int) != 0)=true∧b2=true):=by
     by_cases h:f=0
     ·exact .inl (sN)
     ·exact .inr ⟨lM,e2.2 (Decidable.byContradiction fun h3=>h2 ⟨h,h3⟩)⟩
    by_cases h3:s.size≠0∧k≠3
    ·rw[if_pos h3]
     obtain rfl:b3=false:=by rw[← Bool.not_eq_true,e3];exact h3.2
     exact YI k n f s w b1 b2 hN q1 q2 (nA h3.1).1 (nA h3.1).2
    ·rw[if_neg h3]
     have q3:(s.toList.isEmpty=true∧s.toList=[])∨(s.toList.isEmpty=false∧¬s.toList=[]∧b3=true):=by
      by_cases h:s.size=0
      ·exact .inl (vV h)
      ·exact .inr ⟨(nA h).1,(nA h).2,e3.2 (Decidable.byContradiction fun h4=>h3 ⟨h,h4⟩)⟩
     by_cases h4:Num.M f≠f
     ·rw[if_pos h4]
      exact YK k n f s w b1 b2 b3 hN q1 q2 q3 hf (lM)
     ·rw[if_neg h4]
      by_cases h5:64<s.size
      ·rw[if_pos h5]
       exact YL k n f s w b1 b2 b3 hN q1 q2 q3 hf (sN) (by omega)
      ·rw[if_neg h5]
       exact YM k n f s w b1 b2 b3 hN q1 q2 q3 hf (sN) (by omega)
section
variable (n:Int)(f:Nat)(s:ByteArray)(w:World)
theorem zF(x:Int)(o:Obj):gX x w (.returned (.int .i64 x)) (w.alloc o):=⟨rfl,(Below.refl _ w).alloc (Nat.le_refl _) _⟩
theorem XE:Calls prog 127 #[.agg #[.int .i64 0,.int .i64 n,.int .u64 (f:Int),.string s]] w (gX (if n=0∧f=0∧s.size=0 then 0 else 1) w):=by
 have HX:=zH (fun x o=>zF w x o);by_cases h:n=0∧f=0∧s.size=0
 ·rw[if_pos h]
  obtain⟨rfl,rfl,hs⟩:=h;obtain⟨h1,h2⟩:=vV hs;clear hs;exact QN
 ·rw[if_neg h]
  by_cases hn:n=0
  ·subst hn
   by_cases hf:f=0
   ·subst hf
    obtain⟨h1,h2⟩:=nA (fun hs=>h ⟨rfl,rfl,hs⟩);clear h;exact QN
   ·clear h
    have h1:((f:Int)==0)=false:=by simpa using hf
    have h2:¬(f:Int)=0:=by omega
    exact QN
  ·clear h
   have h1:(n==0)=false:=by simpa using hn
   exact QN
theorem XD:Calls prog 127 #[.agg #[.int .i64 1,.int .i64 n,.int .u64 (f:Int),.string s]] w (gX (if f=0∧s.size=0 then 0 else 1) w):=by
 have HX:=zH (fun x o=>zF w x o);by_cases hf:f=0
 ·subst hf
  by_cases hs:s.size=0
  ·rw[if_pos ⟨rfl,hs⟩]
   obtain⟨h1,h2⟩:=vV hs;clear hs;exact QN
  ·rw[if_neg (fun h=>hs h.2)]
   obtain⟨h1,h2⟩:=nA hs;clear hs;exact QN
 ·rw[if_neg (fun h=>hf h.1)]
  have h1:((f:Int) != 0)=true:=lM;exact QN
theorem XC(hf:f<18446744073709551616):Calls prog 127 #[.agg #[.int .i64 2,.int .i64 n,.int .u64 (f:Int),.string s]] w (gX (if n=0∧s.size=0∧Num.M f=f then 0 else 1) w):=by
 have HX:Hid (∀x o m,gX x w (.returned (.int .i64 x)) ((w.alloc o).drewN m)):=zH fun x o m=>⟨rfl,((Below.refl _ w).alloc (Nat.le_refl _) o).trans (BG (n:=m))⟩
 have HM:Hid (∀w,Calls prog 193 #[.int .u64 (f:Int)] w fun e w'=>e=.returned (.int .u64 (Num.M f:Nat))∧w'=w):=zH fun w=>(iE f w hf).mono fun e w' ⟨h1,h2⟩=>⟨h1,h2.symm⟩
 clear hf;by_cases hn:n=0
 ·subst hn
  by_cases hs:s.size=0
  ·obtain⟨h1,h2⟩:=vV hs
   by_cases hm:Num.M f=f
   ·rw[if_pos ⟨rfl,hs,hm⟩]
    rw[hm] at HM;have h3:((f:Int) != (f:Int))=false:=sN (h:=rfl);clear hm hs;exact Xg
   ·rw[if_neg (fun h=>hm h.2.2)]
    have h3:((f:Int) != (Num.M f:Int))=true:=lM;clear hm hs;exact Xg
  ·rw[if_neg (fun h=>hs h.2.1)]
   obtain⟨h1,h2⟩:=nA hs;clear hs;exact Xg
 ·rw[if_neg (fun h=>hn h.1)]
  have h1:(n != 0)=true:=lM (h:=hn);exact Xg
theorem XB:Calls prog 127 #[.agg #[.int .i64 3,.int .i64 n,.int .u64 (f:Int),.string s]] w (gX (if n=0∧f=0 then (if 64<s.size then 2 else 0) else 1) w):=by
 have HX:=zH (fun x o=>zF w x o);by_cases hn:n=0
 ·subst hn
  by_cases hf:f=0
  ·subst hf
   rw[if_pos ⟨rfl,rfl⟩];by_cases hs:64<s.size
   ·rw[if_pos hs]
    have h1:64<(s.size:Int):=by omega
    exact QN
   ·rw[if_neg hs]
    have h1:¬64<(s.size:Int):=by omega
    exact QN
  ·rw[if_neg (fun h=>hf h.2)]
   have h1:((f:Int) != 0)=true:=lM;exact QN
 ·rw[if_neg (fun h=>hn h.1)]
  have h1:(n != 0)=true:=lM (h:=hn);exact QN
theorem XA(k:Int)(h:k<0∨3<k):Calls prog 127 #[.agg #[.int .i64 k,.int .i64 n,.int .u64 (f:Int),.string s]] w (gX 1 w):=by
 have HX:=zH (fun x o=>zF w x o);have h0:¬k=0:=by omega
 have h1:¬k=1:=by omega
 have h2:¬k=2:=by omega
 have h3:¬k=3:=by omega
 clear h;exact QN
end
theorem bR(v:Val.V)(w:World)(hf:v.f<18446744073709551616):Calls prog 127 #[vv v] w (gX (Val.bG v) w):=by
 obtain⟨k,n,f,s⟩:=v
 show Calls prog 127 #[.agg #[.int .i64 k,.int .i64 n,.int .u64 (f:Int),.string s]] w (gX (Val.bG ⟨k,n,f,s⟩) w)
 simp only at hf;have fit:∀{x y:Int},x=y→Calls prog 127 #[.agg #[.int .i64 k,.int .i64 n,.int .u64 (f:Int),.string s]] w (gX x w)→Calls prog 127 #[.agg #[.int .i64 k,.int .i64 n,.int .u64 (f:Int),.string s]] w (gX y w):=fun h=>h▸id
 by_cases hk:k<0∨3<k
 ·exact fit (if_pos hk).symm (XA n f s w k hk)
 ·have:k=0∨k=1∨k=2∨k=3:=by omega
  rcases this with rfl|rfl|rfl|rfl
  ·refine fit ?_ (XE n f s w)
   unfold Val.bG;simp only;by_cases h1:n=0
   ·by_cases h2:f=0
    ·by_cases h3:s.size=0
     ·subst h1 h2
      rw[if_pos ⟨rfl,rfl,h3⟩,if_neg (by decide),if_neg (by simp),if_neg (by simp),if_neg (fun h=>h.1 h3),if_neg (by rw[Val.FI];simp),if_neg (by omega)]
     ·subst h1 h2
      rw[if_neg (fun h=>h3 h.2.2),if_neg (by decide),if_neg (by simp),if_neg (by simp),if_pos ⟨h3,by decide⟩]
    ·subst h1
     rw[if_neg (fun h=>h2 h.2.1),if_neg (by decide),if_neg (by simp),if_pos ⟨h2,by decide⟩]
   ·rw[if_neg (fun h=>h1 h.1),if_neg (by decide),if_pos ⟨h1,by decide⟩]
  ·refine fit ?_ (XD n f s w)
   unfold Val.bG;simp only;by_cases h2:f=0
   ·subst h2
    by_cases h3:s.size=0
    ·rw[if_pos ⟨rfl,h3⟩,if_neg (by decide),if_neg (by simp),if_neg (by simp),if_neg (fun h=>h.1 h3),if_neg (by rw[Val.FI];simp),if_neg (by omega)]
    ·rw[if_neg (fun h=>h3 h.2),if_neg (by decide),if_neg (by simp),if_neg (by simp),if_pos ⟨h3,by decide⟩]
   ·rw[if_neg (fun h=>h2 h.1),if_neg (by decide),if_neg (by simp),if_pos ⟨h2,by decide⟩]
  ·refine fit ?_ (XC n f s w hf)
   unfold Val.bG;simp only;by_cases h1:n=0
   ·subst h1
    by_cases h3:s.size=0
    ·by_cases h4:Num.M f=f
     ·rw[if_pos ⟨rfl,h3,h4⟩,if_neg (by decide),if_neg (by simp),if_neg (by simp),if_neg (fun h=>h.1 h3),if_neg (by simpa using h4),if_neg (by omega)]
     ·rw[if_neg (fun h=>h4 h.2.2),if_neg (by decide),if_neg (by simp),if_neg (by simp),if_neg (fun h=>h.1 h3),if_pos h4]
    ·rw[if_neg (fun h=>h3 h.2.1),if_neg (by decide),if_neg (by simp),if_neg (by simp),if_pos ⟨h3,by decide⟩]
   ·rw[if_neg (fun h=>h1 h.1),if_neg (by decide),if_pos ⟨h1,by decide⟩]
  ·refine fit ?_ (XB n f s w)
   by_cases h1:n=0
   ·subst h1
    by_cases h2:f=0
    ·subst h2
     rw[if_pos ⟨rfl,rfl⟩,Val.VA]
    ·unfold Val.bG
     simp only;rw[if_neg (fun h=>h2 h.2),if_neg (by decide),if_neg (by simp),if_pos ⟨h2,by decide⟩]
   ·unfold Val.bG
    simp only;rw[if_neg (fun h=>h1 h.1),if_neg (by decide),if_pos ⟨h1,by decide⟩]
end
end Go.Proofs.YtieoeendnccafaaGreat
