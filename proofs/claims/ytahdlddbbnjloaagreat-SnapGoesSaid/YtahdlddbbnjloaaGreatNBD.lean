/- What the document's Same returns: whether objects are the same. No condition but those named. -/
import Derived.Test.YtahdlddbbnjloaaGreatNAN
set_option linter.unusedSimpArgs false
set_option linter.unusedVariables false
set_option maxRecDepth 100000
set_option maxHeartbeats 25600000
open Go.RowKit
namespace Go.Proofs.YtahdlddbbnjloaaGreat
open _root_.Go.Proofs.Tryz
section
theorem Sl.cells{w:World}{b o n c:Nat}{l:List aQ.Pr}(h:Sl w (some ⟨b,o,Option.none⟩) n c l){i:Nat}{x:aQ.Pr}(hx:l[i]?=some x):∀j v,(Yi x)[j]?=some v→w.cell? ⟨b,o+i*5+j,Option.none⟩=some v:=by
 exact aho
theorem IG{w:World}{o:Oper}{a:Act}{x y:aQ.Pr}{b:Bool}{p:Operand}{q:Operand}(hb:(!decide (x=y))=b)(ho:o.op=.binOp .neq 124 p q 124:=by rfl)(hx:a.eval p=.agg (vS x):=by rfl)(hy:a.eval q=.agg (vS y):=by rfl):
  (execOp a.eval o).run prog w=.ok (.value (.bool b)) w:=by
 have e:decide (x=y)=(decide (x.key.toList=y.key.toList)&&(decide (x.val.k=y.val.k)&&decide (x.val.n=y.val.n)&&decide ((x.val.f:Int)=(y.val.f:Int))&&decide (x.val.s.toList=y.val.s.toList))):=by
  rw[← Ej];obtain⟨k,v⟩:=x;obtain⟨k',v'⟩:=y;by_cases h1:k=k'
  ·by_cases h2:v=v'<;>simp[h1,h2]
  ·have h3:¬k.toList=k'.toList:=fun h=>h1 (aQ.toList_inj h)
   simp[h1,h3]
 rw[e] at hb;subst hb;unfold vS Yj at hx hy;unfold execOp;simp only[ho,hx,hy];go_simp;by_cases h0:x.key.toList=y.key.toList<;>by_cases h1:x.val.k=y.val.k<;>by_cases h2:x.val.n=y.val.n<;>by_cases h3:(x.val.f:Int)=(y.val.f:Int)<;>by_cases h4:x.val.s.toList=y.val.s.toList<;>simp[h0,h1,h2,h3,h4]
theorem TK{a b:List aQ.Pr}{n:Nat}(ha:a.length=n)(hb:b.length=n):(∀i x y,i<n→a[i]?=some x→b[i]?=some y→¬x=y→decide (a=b)=false)∧((∀i,i<n→a[i]?=b[i]?)→decide (a=b)=true):=by
 refine⟨fun i x y hi hx hy hne=>decide_eq_false fun h=>?_,fun h=>decide_eq_true (List.ext_getElem? fun i=>?_)⟩
 ·subst h
  rw[hx] at hy;injection hy with hy;exact hne hy
 ·by_cases hi:i<n
  ·exact h i hi
  ·rw[List.getElem?_eq_none (by omega),List.getElem?_eq_none (by omega)]
theorem TL(A B:Option Addr)(c n d m:Nat)(a b:List aQ.Pr)(w:World)(hs:Sl w A n c a)(ht:Sl w B m d b):
  Calls prog 50 #[.slice A n c,.slice B m d] w (dw (decide (a=b)) w):=by
 have HK:=zH (Kn.start w);by_cases hnm:n=m
 case neg=>
  have hd:decide (a=b)=false:=decide_eq_false fun h=>hnm (by rw[← hs.len,← ht.len,h])
  rw[hd];have LP:((n:Int) != (m:Int))=true:=by simp;omega
  clear hs ht hd;go_enter func50,ntmps50;exact jq
 case pos=>
 subst hnm;obtain⟨hno,hyes⟩:=TK hs.len ht.len;have gX:=zH hno;have iK:=zH hyes;have HS:=zH hs;have HT:=zH ht;have HG:Hid (∀k,k<n→(∃x,a[k]?=some x)∧∃y,b[k]?=some y):=zH fun k hk=>⟨Lay.dW (l:=a) (k:=k) (by rw[hs.len];exact hk),Lay.dW (l:=b) (k:=k) (by rw[ht.len];exact hk)⟩
 have hn63:n<9223372036854775807:=Nat.lt_of_le_of_lt hs.big (by decide);clear hs ht hno hyes;generalize decide (a=b)=r at *
 have LP:((n:Int) != (n:Int))=false:=by simp
 go_enter func50,ntmps50;go_wp2_with fail;go_loopw [5] (fun vi wr=>∃k:Nat,k≤n∧vi=.int .i64 k∧Hid (∀i,i<k→a[i]?=b[i]?)∧Hid (Kn w.heap.size w wr [] [])) (fun vi _=>n-(intOf vi).toNat)
 case atStart=>exact⟨0,Nat.zero_le _,rfl,zH (fun i hi=>by omega),HK⟩
 case round=>
  clear HK;obtain⟨k,hk,rfl,HE,HK⟩:=hrel;have hk1:(0:Int)≤(k:Int):=by omega
  by_cases hlt:k<n
  ·have hk2:(k:Int)<(n:Int):=by omega
   have hk3:k<9223372036854775807:=by omega
   obtain⟨⟨x,hx⟩,⟨y,hy⟩⟩:=HG.out k hlt;obtain⟨b1,o1,rfl,Bt⟩:=HS.out.at (Nat.lt_of_le_of_lt (Nat.zero_le _) hlt);obtain⟨b2,o2,rfl,Br⟩:=HT.out.at (Nat.lt_of_le_of_lt (Nat.zero_le _) hlt);have HX:=zH (fun W hW=>Bt W hW k x hx);have HY:=zH (fun W hW=>Br W hW k y hy);have xq:=zH (gX.out k x y hlt hx hy);have Jw:Hid (a[k]?=some x∧b[k]?=some y):=zH ⟨hx,hy⟩;clear Bt Br hx hy gX HG;go_wp2_with fail;by_cases he:x=y
   ·have hb:(!decide (x=y))=false:=by rw[decide_eq_true he];rfl
    refine zR HK.out.drew fun ah=>?_
    refine ak 0 rfl ?_;refine ak 1 rfl ?_;refine ak 2 rfl ?_ fun _ s=>dK (i:=k) hlt
    refine ak 3 rfl ?_ fun _ s=>mZ (x:=x) (off:=o1+k*5) (HX.out _ s.out.b)
    refine ak 4 rfl ?_;refine ak 5 rfl ?_;refine ak 6 rfl ?_ fun _ s=>dK (i:=k) hlt
    refine ak 7 rfl ?_ fun _ s=>mZ (x:=y) (off:=o2+k*5) (HY.out _ s.out.b)
    refine ak 8 rfl ?_ fun _ s=>IG (x:=x) (y:=y) hb
    refine cB ?_;go_wp2_with refine av (aR (j:=k) hk3) ?_
    exact⟨⟨k+1,hlt,rfl,zH (fun i hi=>by
     by_cases hik:i=k
     ·subst hik;rw[Jw.out.1,Jw.out.2,he]
     ·exact HE.out i (by omega)),ah⟩,by simp[intOf];omega⟩
   ·have hb:(!decide (x=y))=true:=by rw[decide_eq_false he];rfl
    have HR:=zH (xq.out he);refine zR HK.out.drew fun ah=>?_
    refine ak 0 rfl ?_;refine ak 1 rfl ?_;refine ak 2 rfl ?_ fun _ s=>dK (i:=k) hlt
    refine ak 3 rfl ?_ fun _ s=>mZ (x:=x) (off:=o1+k*5) (HX.out _ s.out.b)
    refine ak 4 rfl ?_;refine ak 5 rfl ?_;refine ak 6 rfl ?_ fun _ s=>dK (i:=k) hlt
    refine ak 7 rfl ?_ fun _ s=>mZ (x:=y) (off:=o2+k*5) (HY.out _ s.out.b)
    refine ak 8 rfl ?_ fun _ s=>IG (x:=x) (y:=y) hb
    exact FU
  ·obtain rfl:k=n:=by omega
   have HR:=zH (iK.out HE.out);exact qZ
end
section
theorem Qj(A B:Option Addr)(c n d m:Nat)(a b:List Val.V)(w:World)(hs:bT bG vF w A n c a)(ht:bT bG vF w B m d b):
  Calls prog 51 #[.slice A n c,.slice B m d] w (dw (decide (a=b)) w):=by
 have HK:=zH (Kn.start w);by_cases hnm:n=m
 case neg=>
  have hd:decide (a=b)=false:=decide_eq_false fun h=>hnm (by rw[← hs.len,← ht.len,h])
  rw[hd];have LP:((n:Int) != (m:Int))=true:=by simp;omega
  clear hs ht hd;go_enter func51,ntmps51;exact jq
 case pos=>
 subst hnm;obtain⟨hno,hyes⟩:=Et hs.len ht.len;have gX:=zH hno;have iK:=zH hyes;have HS:=zH hs;have HT:=zH ht;have HG:Hid (∀k,k<n→(∃x,a[k]?=some x)∧∃y,b[k]?=some y):=zH fun k hk=>⟨Lay.dW (l:=a) (k:=k) (by rw[hs.len];exact hk),Lay.dW (l:=b) (k:=k) (by rw[ht.len];exact hk)⟩
 have hn63:n<9223372036854775807:=by
  have h:n*40≤140737488355328:=hs.big;omega
 clear hs ht hno hyes;generalize decide (a=b)=r at *
 have LP:((n:Int) != (n:Int))=false:=by simp
 go_enter func51,ntmps51;go_wp2_with fail;go_loopw [5] (fun vi wr=>∃k:Nat,k≤n∧vi=.int .i64 k∧Hid (∀i,i<k→a[i]?=b[i]?)∧Hid (Kn w.heap.size w wr [] [])) (fun vi _=>n-(intOf vi).toNat)
 case atStart=>exact⟨0,Nat.zero_le _,rfl,zH (fun i hi=>by omega),HK⟩
 case round=>
  clear HK;obtain⟨k,hk,rfl,HE,HK⟩:=hrel;have hk1:(0:Int)≤(k:Int):=by omega
  by_cases hlt:k<n
  ·have hk2:(k:Int)<(n:Int):=by omega
   have hk3:k<9223372036854775807:=by omega
   obtain⟨⟨x,hx⟩,⟨y,hy⟩⟩:=HG.out k hlt;obtain⟨b1,o1,rfl,Bt⟩:=HS.out.at (Nat.lt_of_le_of_lt (Nat.zero_le _) hlt);obtain⟨b2,o2,rfl,Br⟩:=HT.out.at (Nat.lt_of_le_of_lt (Nat.zero_le _) hlt);have HX:=zH (fun W hW=>Bt W hW k x hx);have HY:=zH (fun W hW=>Br W hW k y hy);have xq:=zH (gX.out k x y hlt hx hy);have Jw:Hid (a[k]?=some x∧b[k]?=some y):=zH ⟨hx,hy⟩;clear Bt Br hx hy gX HG;go_wp2_with fail;by_cases he:x=y
   ·have hb:(!decide (x=y))=false:=by rw[decide_eq_true he];rfl
    refine zR HK.out.drew fun ah=>?_
    refine ak 0 rfl ?_;refine ak 1 rfl ?_;refine ak 2 rfl ?_ fun _ s=>dZ bG (i:=k) hlt
    refine ak 3 rfl ?_ fun _ s=>fI bG (x:=x) (off:=o1+k*4) underlying26 (HX.out _ s.out.b)
    refine ak 4 rfl ?_;refine ak 5 rfl ?_;refine ak 6 rfl ?_ fun _ s=>dZ bG (i:=k) hlt
    refine ak 7 rfl ?_ fun _ s=>fI bG (x:=y) (off:=o2+k*4) underlying26 (HY.out _ s.out.b)
    refine ak 8 rfl ?_ fun _ s=>lF (v:=x) (u:=y) hb
    refine cB ?_;go_wp2_with refine av (aR (j:=k) hk3) ?_
    exact⟨⟨k+1,hlt,rfl,zH (fun i hi=>by
     by_cases hik:i=k
     ·subst hik;rw[Jw.out.1,Jw.out.2,he]
     ·exact HE.out i (by omega)),ah⟩,by simp[intOf];omega⟩
   ·have hb:(!decide (x=y))=true:=by rw[decide_eq_false he];rfl
    have HR:=zH (xq.out he);refine zR HK.out.drew fun ah=>?_
    refine ak 0 rfl ?_;refine ak 1 rfl ?_;refine ak 2 rfl ?_ fun _ s=>dZ bG (i:=k) hlt
    refine ak 3 rfl ?_ fun _ s=>fI bG (x:=x) (off:=o1+k*4) underlying26 (HX.out _ s.out.b)
    refine ak 4 rfl ?_;refine ak 5 rfl ?_;refine ak 6 rfl ?_ fun _ s=>dZ bG (i:=k) hlt
    refine ak 7 rfl ?_ fun _ s=>fI bG (x:=y) (off:=o2+k*4) underlying26 (HY.out _ s.out.b)
    refine ak 8 rfl ?_ fun _ s=>lF (v:=x) (u:=y) hb
    exact FU
  ·obtain rfl:k=n:=by omega
   have HR:=zH (iK.out HE.out);exact qZ
end
section
theorem QG(A B:Option Addr)(c n d m:Nat)(a b:List Rf)(w:World)(hs:bT aN rF w A n c a)(ht:bT aN rF w B m d b):
  Calls prog 52 #[.slice A n c,.slice B m d] w (dw (decide (a=b)) w):=by
 have HK:=zH (Kn.start w);by_cases hnm:n=m
 case neg=>
  have hd:decide (a=b)=false:=decide_eq_false fun h=>hnm (by rw[← hs.len,← ht.len,h])
  rw[hd];have LP:((n:Int) != (m:Int))=true:=by simp;omega
  clear hs ht hd;go_enter func52,ntmps52;exact jq
 case pos=>
 subst hnm;obtain⟨hno,hyes⟩:=Et hs.len ht.len;have gX:=zH hno;have iK:=zH hyes;have HS:=zH hs;have HT:=zH ht;have HG:Hid (∀k,k<n→(∃x,a[k]?=some x)∧∃y,b[k]?=some y):=zH fun k hk=>⟨Lay.dW (l:=a) (k:=k) (by rw[hs.len];exact hk),Lay.dW (l:=b) (k:=k) (by rw[ht.len];exact hk)⟩
 have hn63:n<9223372036854775807:=by
  exact MX
 clear hs ht hno hyes;generalize decide (a=b)=r at *
 have LP:((n:Int) != (n:Int))=false:=by simp
 go_enter func52,ntmps52;go_wp2_with fail;go_loopw [5] (fun vi wr=>∃k:Nat,k≤n∧vi=.int .i64 k∧Hid (∀i,i<k→a[i]?=b[i]?)∧Hid (Kn w.heap.size w wr [] [])) (fun vi _=>n-(intOf vi).toNat)
 case atStart=>exact⟨0,Nat.zero_le _,rfl,zH (fun i hi=>by omega),HK⟩
 case round=>
  clear HK;obtain⟨k,hk,rfl,HE,HK⟩:=hrel;have hk1:(0:Int)≤(k:Int):=by omega
  by_cases hlt:k<n
  ·have hk2:(k:Int)<(n:Int):=by omega
   have hk3:k<9223372036854775807:=by omega
   obtain⟨⟨x,hx⟩,⟨y,hy⟩⟩:=HG.out k hlt;obtain⟨b1,o1,rfl,Bt⟩:=HS.out.at (Nat.lt_of_le_of_lt (Nat.zero_le _) hlt);obtain⟨b2,o2,rfl,Br⟩:=HT.out.at (Nat.lt_of_le_of_lt (Nat.zero_le _) hlt);have HX:=zH (fun W hW=>Bt W hW k x hx);have HY:=zH (fun W hW=>Br W hW k y hy);have xq:=zH (gX.out k x y hlt hx hy);have Jw:Hid (a[k]?=some x∧b[k]?=some y):=zH ⟨hx,hy⟩;clear Bt Br hx hy gX HG;go_wp2_with fail;by_cases he:x=y
   ·have hb:(!decide (x=y))=false:=by rw[decide_eq_true he];rfl
    refine zR HK.out.drew fun ah=>?_
    refine ak 0 rfl ?_;refine ak 1 rfl ?_;refine ak 2 rfl ?_ fun _ s=>dA (i:=k) hlt
    refine ak 3 rfl ?_ fun _ s=>cZ (x:=x) (off:=o1+k*3) (HX.out _ s.out.b)
    refine ak 4 rfl ?_;refine ak 5 rfl ?_;refine ak 6 rfl ?_ fun _ s=>dA (i:=k) hlt
    refine ak 7 rfl ?_ fun _ s=>cZ (x:=y) (off:=o2+k*3) (HY.out _ s.out.b)
    refine ak 8 rfl ?_ fun _ s=>IC (v:=x) (u:=y) hb
    refine cB ?_;go_wp2_with refine av (aR (j:=k) hk3) ?_
    exact⟨⟨k+1,hlt,rfl,zH (fun i hi=>by
     by_cases hik:i=k
     ·subst hik;rw[Jw.out.1,Jw.out.2,he]
     ·exact HE.out i (by omega)),ah⟩,by simp[intOf];omega⟩
   ·have hb:(!decide (x=y))=true:=by rw[decide_eq_false he];rfl
    have HR:=zH (xq.out he);refine zR HK.out.drew fun ah=>?_
    refine ak 0 rfl ?_;refine ak 1 rfl ?_;refine ak 2 rfl ?_ fun _ s=>dA (i:=k) hlt
    refine ak 3 rfl ?_ fun _ s=>cZ (x:=x) (off:=o1+k*3) (HX.out _ s.out.b)
    refine ak 4 rfl ?_;refine ak 5 rfl ?_;refine ak 6 rfl ?_ fun _ s=>dA (i:=k) hlt
    refine ak 7 rfl ?_ fun _ s=>cZ (x:=y) (off:=o2+k*3) (HY.out _ s.out.b)
    refine ak 8 rfl ?_ fun _ s=>IC (v:=x) (u:=y) hb
    exact FU
  ·obtain rfl:k=n:=by omega
   have HR:=zH (iK.out HE.out);exact qZ
end
section
theorem Kn.akL{b0:Nat}{w0 w:World}{R:List bV}{a b:Nat×TypeId×Array Value}(h:Kn b0 w0 w [a,b] R):Kn b0 w0 w [b,a] R:=by
 refine h.pick (fun i=>1-i) id (fun i j hi hj h=>?_) (fun i j _ _ h=>h) (fun i x hx=>?_) (fun i x hx=>hx)
 ·simp at hi hj;omega
 ·match i,hx with
  | 0,hx=>exact hx
  | 1,hx=>exact hx
theorem rG{b0:Nat}{w0 w:World}{L:List (Nat×TypeId×Array Value)}{R:List bV}{ops:Array Oper}{o:Oper}{a:Act}{Q:Exit→Act→World→Prop}{K:Act→World→Prop}{E:Prop}(HK:Hid (Kn b0 w0 w L R))
  (h:∀w' g,Hid (Kn b0 w0 w' (L++[(g,75,cu Co)]) R)→Hid (Below w.heap.size w w')→K (a.put o.dst (.pointer (some ⟨g,0,none⟩))) w') (hgd:o.guard=none:=by rfl)(ho:o.op=.alloc 75:=by rfl):if Region.wanted o (yielded ops a.tmps)=true then Oper.wp prog o a w K Q else E:=by
 rw[if_pos (by simp[Region.wanted,hgd])];have h4:=h _ w.heap.size (zH (HK.out.alloc 75 (cu Co))) (zH ((Below.refl _ w).alloc (Nat.le_refl _) _));have hr:(Instr.alloc 75 true (.tuple #[])).run prog w=.ok (.pointer (some ⟨w.heap.size,0,none⟩)) (w.alloc (.cells (cu Co) 75)):=bB.xD w;exact acB
theorem bI{b0:Nat}{w0 w:World}{L:List (Nat×TypeId×Array Value)}{R:List bV}{ops:Array Oper}{o:Oper}{a:Act}{Q:Exit→Act→World→Prop}{K:Act→World→Prop}{E:Prop}{g:Nat}{x y:Oh}(HK:Hid (Kn b0 w0 w L R))(i:Nat){p:Operand}{q:Operand}
  (h:∀w',Hid (Kn b0 w0 w' (L.set i (g,75,cu y)) R)→K (a.put o.dst undef) w') (hgd:o.guard=none:=by rfl)(ho:o.op=.store 75 p q:=by rfl)(hL:L[i]?=some (g,75,cu x):=by rfl)(hx:a.eval p=.pointer (some ⟨g,0,none⟩):=by rfl)(hy:a.eval q=.agg (cu y):=by rfl):if Region.wanted o (yielded ops a.tmps)=true then Oper.wp prog o a w K Q else E:=
 Nh bB (p2:=y) HK i hgd p q ho hL rfl hx hy h
theorem Qo(A B:Option Addr)(c n d m:Nat)(a b:List Oh)(w:World)(hs:dS w A n c a)(ht:dS w B m d b):
  Calls prog 20 #[.slice A n c,.slice B m d] w (dw (decide (vs a=vs b)) w):=by
 have HK:=zH (Kn.start w);unfold dw;by_cases hnm:n=m
 case neg=>
  have hd:decide (vs a=vs b)=false:=decide_eq_false fun h=>hnm (by rw[← hs.len,← ht.len,← gq a,← gq b,h])
  rw[hd];have LP:((n:Int) != (m:Int))=true:=by simp;omega
  clear hs ht hd;go_enter func20,ntmps20;exact jq
 case pos=>
 subst hnm;obtain⟨hno,hyes⟩:=Et (a:=vs a) (b:=vs b) (n:=n) (by rw[gq];exact hs.len) (by rw[gq];exact ht.len);have gX:=zH hno;have iK:=zH hyes;have HS:=zH hs;have HT:=zH ht;have hbig:n*144≤140737488355328:=hs.s.big;have hn63:n<9223372036854775807:=by omega
 have HP:=zH TL;have HV:=zH Qj;have HR:=zH QG;unfold dw at HP HV HR;clear hs ht hno hyes hbig;generalize decide (vs a=vs b)=r at *
 have LP:((n:Int) != (n:Int))=false:=by simp
 go_enter func20,ntmps20;go_wp2_with fail;go_loopw [5] (fun vi wr=>∃k:Nat,k≤n∧vi=.int .i64 k∧Hid (∀i,i<k→(vs a)[i]?=(vs b)[i]?)∧Hid (Kn w.heap.size w wr [] [])) (fun vi _=>n-(intOf vi).toNat)
 case atStart=>exact⟨0,Nat.zero_le _,rfl,zH (fun i hi=>by omega),HK⟩
 case round=>
  clear HK;obtain⟨k,hk,rfl,HE,HK⟩:=hrel;have hk1:(0:Int)≤(k:Int):=by omega
  by_cases hlt:k<n
  case neg=>
   obtain rfl:k=n:=by omega
   have RS:Hid (r=true):=zH (iK.out HE.out);exact Ee
  case pos=>
  have hk2:(k:Int)<(n:Int):=by omega
  have hk3:k<9223372036854775807:=by omega
  obtain⟨x,hx,hix⟩:=HS.out.get hlt;obtain⟨y,hy,hiy⟩:=HT.out.get hlt;obtain⟨b1,o1,rfl,Bt⟩:=HS.out.s.at (Nat.lt_of_le_of_lt (Nat.zero_le _) hlt);obtain⟨b2,o2,rfl,Br⟩:=HT.out.s.at (Nat.lt_of_le_of_lt (Nat.zero_le _) hlt);have HX:Hid (∀W,Below w.heap.size w W→∀j v,(yY x)[j]?=some v→W.cell? ⟨b1,o1+k*11+j,none⟩=some v):=zH (fun W hW=>Bt W hW k x hx);have HY:Hid (∀W,Below w.heap.size w W→∀j v,(yY y)[j]?=some v→W.cell? ⟨b2,o2+k*11+j,none⟩=some v):=zH (fun W hW=>Br W hW k y hy);have xq:=zH (gX.out k x.v y.v hlt (dB hx) (dB hy));have Jw:Hid (x.v=y.v→(vs a)[k]?=(vs b)[k]?):=zH fun h=>by rw[dB hx,dB hy,h]
  have HIx:=zH hix;have qP:=zH hiy;clear Bt Br hx hy gX iK hix hiy HS HT;go_wp2_with fail;go_cut [6,7] (fun s6 s7 wx=>∃(gx gy:Nat),s6=.pointer (some ⟨gx,0,none⟩)∧s7=.pointer (some ⟨gy,0,none⟩)∧Hid (Kn w.heap.size w wx [(gx,75,cu x),(gy,75,cu y)] []))
  case first=>
   replace HK:=zH HK.out.drew;have HH:=HK;refine wp_region_held_drew (S:=(fun W=>Hid (Kn w.heap.size w W [] []))) (by kernel_rfl) ?_ fun ah=>?_
   ·(try dsimp only);exact HH
   refine ak 0 rfl ?_;refine ak 1 rfl ?_;refine ak 2 rfl ?_ fun _ s=>bH (i:=k) hlt
   refine ak 3 rfl ?_ fun _ s=>gL (off:=o1+k*11) (HX.out _ s.out.b)
   refine ak 4 rfl ?_;refine ak 5 rfl ?_;refine ak 6 rfl ?_ fun _ s=>bH (i:=k) hlt
   refine ak 7 rfl ?_ fun _ s=>gL (off:=o2+k*11) (HY.out _ s.out.b)
   refine iW 8 9 rfl rfl (fun K hK=>?_) fun K hK=>?_
   refine rG HK ?_;clear HK;intro wA gx HK _;simp only[aS,aK] at HK;have hs:=zH (HK.out.aB 0);refine bk hK hs fun ah=>?_
   clear hK K;refine aC 9 rfl fun K hK=>?_
   refine rG HK ?_;clear HK;intro wA gy HK _;simp only[aS,aK] at HK;have hs:=zH (HK.out.aB 0);refine bk hK hs fun ah=>?_
   clear hK K;refine aC 10 rfl fun K hK=>?_
   first|(refine bI HK 0 ?_;clear HK;intro _ HK;simp only[lS] at HK;have hs:=zH (HK.out.aB 0))|(refine bI HK 1 ?_;clear HK;intro _ HK;simp only[lS] at HK;have hs:=zH (HK.out.aB 0))
   refine bk hK hs fun ah=>?_
   clear hK K;refine aC 11 rfl fun K hK=>?_
   first|(refine bI HK 0 ?_;clear HK;intro _ HK;simp only[lS] at HK;have hs:=zH (HK.out.aB 0))|(refine bI HK 1 ?_;clear HK;intro _ HK;simp only[lS] at HK;have hs:=zH (HK.out.aB 0))
   refine bk hK hs fun ah=>?_
   clear hK K;refine cB ?_
   rotate_left
   refine rG HK ?_;clear HK;intro wA gy HK _;simp only[aS,aK] at HK;have hs:=zH (HK.out.aB 0);refine bk hK hs fun ah=>?_
   clear hK K;refine aC 8 rfl fun K hK=>?_
   refine rG HK ?_;clear HK;intro wA gx HK _;simp only[aS,aK] at HK;have hs:=zH (HK.out.aB 0);refine bk hK hs fun ah=>?_
   clear hK K;refine aC 10 rfl fun K hK=>?_
   first|(refine bI HK 0 ?_;clear HK;intro _ HK;simp only[lS] at HK;have hs:=zH (HK.out.aB 0))|(refine bI HK 1 ?_;clear HK;intro _ HK;simp only[lS] at HK;have hs:=zH (HK.out.aB 0))
   refine bk hK hs fun ah=>?_
   clear hK K;refine aC 11 rfl fun K hK=>?_
   first|(refine bI HK 0 ?_;clear HK;intro _ HK;simp only[lS] at HK;have hs:=zH (HK.out.aB 0))|(refine bI HK 1 ?_;clear HK;intro _ HK;simp only[lS] at HK;have hs:=zH (HK.out.aB 0))
   refine bk hK hs fun ah=>?_
   clear hK K;refine cB ?_
   rotate_left
   all_goals
    go_wp2_with fail;go_meet
    first
     | exact⟨gx,gy,rfl,rfl,HK⟩
     | exact⟨gx,gy,rfl,rfl,zH (Kn.akL HK.out)⟩
  case rest=>
  clear HK HX HY;obtain⟨gx,gy,rfl,rfl,HK⟩:=hcut;obtain⟨⟨name,kind,cap,dV,vals,refs,round,⟨mn,ms,ml,mm⟩⟩,pA,pn,pc,vA,vn,vc,rA,rn,rc⟩:=x;obtain⟨⟨name',kind',cap',ala,vals',refs',round',⟨mn',ms',ml',mm'⟩⟩,pA',pn',pc',vA',vn',vc',rA',rn',rc'⟩:=y;unfold cu at HK;simp only at HK xq Jw;by_cases hname:name=name'
  case neg=>
   have RS:Hid (r=false):=zH (xq.out fun h=>hname (congrArg au.Ob.name h));have g:¬name.toList=name'.toList:=fun h=>hname (aQ.toList_inj h)
   have c0:=HK.out.cell 0 rfl 0 (v:=.string name) rfl;have d0:=HK.out.cell 1 rfl 0 (v:=.string name') rfl;clear HP HV HR HE Jw xq hname;exact Ee
  case pos=>
  subst hname;by_cases hkind:kind=kind'
  case neg=>
   have RS:Hid (r=false):=zH (xq.out fun h=>hkind (congrArg au.Ob.kind h));have g:(kind != kind')=true:=by simpa using hkind
   have c0:=HK.out.cell 0 rfl 0 (v:=.string name) rfl;have d0:=HK.out.cell 1 rfl 0 (v:=.string name) rfl;have c1:=HK.out.cell 0 rfl 1 (v:=.int .i64 kind) rfl;have d1:=HK.out.cell 1 rfl 1 (v:=.int .i64 kind') rfl;clear HP HV HR HE Jw xq hkind;exact Ee
  case pos=>
  subst hkind;by_cases hcap:cap=cap'
  case neg=>
   have RS:Hid (r=false):=zH (xq.out fun h=>hcap (congrArg au.Ob.cap h));have g:(cap != cap')=true:=by simpa using hcap
   have c0:=HK.out.cell 0 rfl 0 (v:=.string name) rfl;have d0:=HK.out.cell 1 rfl 0 (v:=.string name) rfl;have c1:=HK.out.cell 0 rfl 1 (v:=.int .i64 kind) rfl;have d1:=HK.out.cell 1 rfl 1 (v:=.int .i64 kind) rfl;have c2:=HK.out.cell 0 rfl 2 (v:=.int .i64 cap) rfl;have d2:=HK.out.cell 1 rfl 2 (v:=.int .i64 cap') rfl;clear HP HV HR HE Jw xq hcap;exact Ee
  case pos=>
  subst hcap;by_cases Fh:round=round'
  case neg=>
   have RS:Hid (r=false):=zH (xq.out fun h=>Fh (congrArg au.Ob.round h));have g:(round != round')=true:=by simpa using Fh
   have c0:=HK.out.cell 0 rfl 0 (v:=.string name) rfl;have d0:=HK.out.cell 1 rfl 0 (v:=.string name) rfl;have c1:=HK.out.cell 0 rfl 1 (v:=.int .i64 kind) rfl;have d1:=HK.out.cell 1 rfl 1 (v:=.int .i64 kind) rfl;have c2:=HK.out.cell 0 rfl 2 (v:=.int .i64 cap) rfl;have d2:=HK.out.cell 1 rfl 2 (v:=.int .i64 cap) rfl;have c6:=HK.out.cell 0 rfl 6 (v:=.int .i64 round) rfl;have d6:=HK.out.cell 1 rfl 6 (v:=.int .i64 round') rfl;clear HP HV HR HE Jw xq Fh;exact Ee
  case pos=>
  subst Fh;by_cases hmn:mn=mn'
  case neg=>
   have RS:Hid (r=false):=zH (xq.out fun h=>hmn (congrArg (fun o:au.Ob=>o.mt.n) h));have c0:=HK.out.cell 0 rfl 0 (v:=.string name) rfl;have d0:=HK.out.cell 1 rfl 0 (v:=.string name) rfl;have c1:=HK.out.cell 0 rfl 1 (v:=.int .i64 kind) rfl;have d1:=HK.out.cell 1 rfl 1 (v:=.int .i64 kind) rfl;have c2:=HK.out.cell 0 rfl 2 (v:=.int .i64 cap) rfl;have d2:=HK.out.cell 1 rfl 2 (v:=.int .i64 cap) rfl;have c6:=HK.out.cell 0 rfl 6 (v:=.int .i64 round) rfl;have d6:=HK.out.cell 1 rfl 6 (v:=.int .i64 round) rfl;have c7:=HK.out.cell 0 rfl 7 (v:=.int .i64 mn) rfl;have d7:=HK.out.cell 1 rfl 7 (v:=.int .i64 mn') rfl;have c8:=HK.out.cell 0 rfl 8 (v:=.int .u64 (ms:Int)) rfl;have d8:=HK.out.cell 1 rfl 8 (v:=.int .u64 (ms':Int)) rfl;exact aek
  case pos=>
  subst hmn;by_cases hms:ms=ms'
  case neg=>
   have RS:Hid (r=false):=zH (xq.out fun h=>hms (congrArg (fun o:au.Ob=>o.mt.s) h));have g:¬(ms:Int)=(ms':Int):=by omega
   have c0:=HK.out.cell 0 rfl 0 (v:=.string name) rfl;have d0:=HK.out.cell 1 rfl 0 (v:=.string name) rfl;have c1:=HK.out.cell 0 rfl 1 (v:=.int .i64 kind) rfl;have d1:=HK.out.cell 1 rfl 1 (v:=.int .i64 kind) rfl;have c2:=HK.out.cell 0 rfl 2 (v:=.int .i64 cap) rfl;have d2:=HK.out.cell 1 rfl 2 (v:=.int .i64 cap) rfl;have c6:=HK.out.cell 0 rfl 6 (v:=.int .i64 round) rfl;have d6:=HK.out.cell 1 rfl 6 (v:=.int .i64 round) rfl;have c7:=HK.out.cell 0 rfl 7 (v:=.int .i64 mn) rfl;have d7:=HK.out.cell 1 rfl 7 (v:=.int .i64 mn) rfl;have c8:=HK.out.cell 0 rfl 8 (v:=.int .u64 (ms:Int)) rfl;have d8:=HK.out.cell 1 rfl 8 (v:=.int .u64 (ms':Int)) rfl;exact aek
  case pos=>
  subst hms;by_cases hml:ml=ml'
  case neg=>
   have RS:Hid (r=false):=zH (xq.out fun h=>hml (congrArg (fun o:au.Ob=>o.mt.l) h));have g:¬(ml:Int)=(ml':Int):=by omega
   have c0:=HK.out.cell 0 rfl 0 (v:=.string name) rfl;have d0:=HK.out.cell 1 rfl 0 (v:=.string name) rfl;have c1:=HK.out.cell 0 rfl 1 (v:=.int .i64 kind) rfl;have d1:=HK.out.cell 1 rfl 1 (v:=.int .i64 kind) rfl;have c2:=HK.out.cell 0 rfl 2 (v:=.int .i64 cap) rfl;have d2:=HK.out.cell 1 rfl 2 (v:=.int .i64 cap) rfl;have c6:=HK.out.cell 0 rfl 6 (v:=.int .i64 round) rfl;have d6:=HK.out.cell 1 rfl 6 (v:=.int .i64 round) rfl;have c7:=HK.out.cell 0 rfl 7 (v:=.int .i64 mn) rfl;have d7:=HK.out.cell 1 rfl 7 (v:=.int .i64 mn) rfl;have c8:=HK.out.cell 0 rfl 8 (v:=.int .u64 (ms:Int)) rfl;have d8:=HK.out.cell 1 rfl 8 (v:=.int .u64 (ms:Int)) rfl;exact aek
  case pos=>
  subst hml;by_cases hmm:mm=mm'
  case neg=>
   have RS:Hid (r=false):=zH (xq.out fun h=>hmm (congrArg (fun o:au.Ob=>o.mt.m) h));have g:¬(mm:Int)=(mm':Int):=by omega
   have c0:=HK.out.cell 0 rfl 0 (v:=.string name) rfl;have d0:=HK.out.cell 1 rfl 0 (v:=.string name) rfl;have c1:=HK.out.cell 0 rfl 1 (v:=.int .i64 kind) rfl;have d1:=HK.out.cell 1 rfl 1 (v:=.int .i64 kind) rfl;have c2:=HK.out.cell 0 rfl 2 (v:=.int .i64 cap) rfl;have d2:=HK.out.cell 1 rfl 2 (v:=.int .i64 cap) rfl;have c6:=HK.out.cell 0 rfl 6 (v:=.int .i64 round) rfl;have d6:=HK.out.cell 1 rfl 6 (v:=.int .i64 round) rfl;have c7:=HK.out.cell 0 rfl 7 (v:=.int .i64 mn) rfl;have d7:=HK.out.cell 1 rfl 7 (v:=.int .i64 mn) rfl;have c8:=HK.out.cell 0 rfl 8 (v:=.int .u64 (ms:Int)) rfl;have d8:=HK.out.cell 1 rfl 8 (v:=.int .u64 (ms:Int)) rfl;have c9:=HK.out.cell 0 rfl 9 (v:=.int .u64 (ml:Int)) rfl;have d9:=HK.out.cell 1 rfl 9 (v:=.int .u64 (ml:Int)) rfl;have c10:=HK.out.cell 0 rfl 10 (v:=.int .u64 (mm:Int)) rfl;have d10:=HK.out.cell 1 rfl 10 (v:=.int .u64 (mm':Int)) rfl;clear HP HV HR HE Jw xq;exact Ee
  case pos=>
  subst hmm;have c0:=HK.out.cell 0 rfl 0 (v:=.string name) rfl;have d0:=HK.out.cell 1 rfl 0 (v:=.string name) rfl;have c1:=HK.out.cell 0 rfl 1 (v:=.int .i64 kind) rfl;have d1:=HK.out.cell 1 rfl 1 (v:=.int .i64 kind) rfl;have c2:=HK.out.cell 0 rfl 2 (v:=.int .i64 cap) rfl;have d2:=HK.out.cell 1 rfl 2 (v:=.int .i64 cap) rfl;have c6:=HK.out.cell 0 rfl 6 (v:=.int .i64 round) rfl;have d6:=HK.out.cell 1 rfl 6 (v:=.int .i64 round) rfl;have c7:=HK.out.cell 0 rfl 7 (v:=.int .i64 mn) rfl;have d7:=HK.out.cell 1 rfl 7 (v:=.int .i64 mn) rfl;have c8:=HK.out.cell 0 rfl 8 (v:=.int .u64 (ms:Int)) rfl;have d8:=HK.out.cell 1 rfl 8 (v:=.int .u64 (ms:Int)) rfl;have c9:=HK.out.cell 0 rfl 9 (v:=.int .u64 (ml:Int)) rfl;have d9:=HK.out.cell 1 rfl 9 (v:=.int .u64 (ml:Int)) rfl;have c10:=HK.out.cell 0 rfl 10 (v:=.int .u64 (mm:Int)) rfl;have d10:=HK.out.cell 1 rfl 10 (v:=.int .u64 (mm:Int)) rfl;have c3:=HK.out.cell 0 rfl 3 (v:=.slice pA pn pc) rfl;have d3:=HK.out.cell 1 rfl 3 (v:=.slice pA' pn' pc') rfl;go_wp2_with fail;refine(HP.out _ _ _ _ _ _ _ _ _ (HIx.out.p.later HK.out.b) (qP.out.p.later HK.out.b)).mono ?_;rintro e w1 ⟨rfl,b1⟩;clear c0 d0 c1 d1 c2 d2 c6 d6 c7 d7 c8 d8 c9 d9 c10 d10 c3 d3;replace HK:=iH HK b1;clear b1;by_cases aaI:dV=ala
  case neg=>
   have RS:Hid (r=false):=zH (xq.out fun h=>aaI (congrArg au.Ob.dV h));rw[decide_eq_false aaI];exact Ee
  case pos=>
  rw[decide_eq_true aaI];have c4:=HK.out.cell 0 rfl 4 (v:=.slice vA vn vc) rfl;have d4:=HK.out.cell 1 rfl 4 (v:=.slice vA' vn' vc') rfl;go_wp2_with fail;refine(HV.out _ _ _ _ _ _ _ _ _ (HIx.out.v.later HK.out.b) (qP.out.v.later HK.out.b)).mono ?_;rintro e w1 ⟨rfl,b1⟩;clear c4 d4;replace HK:=iH HK b1;clear b1;by_cases Oe:vals=vals'
  case neg=>
   have RS:Hid (r=false):=zH (xq.out fun h=>Oe (congrArg au.Ob.vals h));rw[decide_eq_false Oe];exact Ee
  case pos=>
  rw[decide_eq_true Oe];have c5:=HK.out.cell 0 rfl 5 (v:=.slice rA rn rc) rfl;have d5:=HK.out.cell 1 rfl 5 (v:=.slice rA' rn' rc') rfl;go_wp2_with fail;refine(HR.out _ _ _ _ _ _ _ _ _ (HIx.out.r.later HK.out.b) (qP.out.r.later HK.out.b)).mono ?_;rintro e w1 ⟨rfl,b1⟩;clear c5 d5;replace HK:=iH HK b1;clear b1;by_cases hrefs:refs=refs'
  case neg=>
   have RS:Hid (r=false):=zH (xq.out fun h=>hrefs (congrArg au.Ob.refs h));rw[decide_eq_false hrefs];exact Ee
  case pos=>
  rw[decide_eq_true hrefs];have HEk:=zH (Jw.out (by rw[aaI,Oe,hrefs]));go_wp2_with refine zX (aR (j:=k) hk3) ?_
  exact⟨⟨k+1,by omega,by go_num,zH (fun i hi=>by
   by_cases hik:i=k
   ·rw[hik];exact HEk.out
   ·exact HE.out i (by omega)),zH (HK.out.aB 0)⟩,by simp[intOf];omega⟩
end
end Go.Proofs.YtahdlddbbnjloaaGreat
