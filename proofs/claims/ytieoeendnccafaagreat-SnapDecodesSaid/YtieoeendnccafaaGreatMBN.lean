/- What the document's Same returns: whether objects are the same. No condition but those named. -/
import Derived.Test.YtieoeendnccafaaGreatMTK
import Derived.Test.YtieoeendnccafaaGreatMAI
import Derived.Test.YtieoeendnccafaaGreatMAL
import Derived.Test.YtieoeendnccafaaGreatMAJ
import Derived.Deep.CutBlock
import Derived.Deep.DeepCutAuto
set_option linter.unusedSimpArgs false
set_option linter.unusedVariables false
set_option maxRecDepth 100000
set_option maxHeartbeats 25600000
namespace Go.Proofs.YtieoeendnccafaaGreat
section
open Go.RowKit
theorem Sl.cells{w:World}{b o n c:Nat}{l:List Dct.Pr}(h:Sl w (some ⟨b,o,Option.none⟩) n c l){i:Nat}{x:Dct.Pr}(hx:l[i]?=some x):∀j v,(prL x)[j]?=some v→w.cell? ⟨b,o+i*5+j,Option.none⟩=some v:=by
 have hi:=(List.getElem?_eq_some_iff.1 hx).1
 obtain⟨b',o',e,hat⟩:=h.at (by rw[← h.len];omega)
 injection e with e
 injection e with e1 e2
 subst e1 e2
 exact hat w (Below.refl _ w) i x hx
theorem exec_pne{w:World}{o:Oper}{a:Act}{x y:Dct.Pr}{b:Bool}(p q:Operand)(ho:o.op=.binOp .neq 103 p q 103)(hx:a.eval p=.agg (prA x))(hy:a.eval q=.agg (prA y))(hb:(!decide (x=y))=b):
  (execOp a.eval o).run Tryz.prog w=.ok (.value (.bool b)) w:=by
 have e:decide (x=y)=(decide (x.key.toList=y.key.toList)&&(decide (x.val.k=y.val.k)&&decide (x.val.n=y.val.n)&&decide ((x.val.f:Int)=(y.val.f:Int))&&decide (x.val.s.toList=y.val.s.toList))):=by
  rw[← veq_all]
  obtain⟨k,v⟩:=x
  obtain⟨k',v'⟩:=y
  by_cases h1:k=k'
  ·by_cases h2:v=v'<;>simp[h1,h2]
  ·have h3:¬k.toList=k'.toList:=fun h=>h1 (Dct.toList_inj h)
   simp[h1,h3]
 rw[e] at hb
 subst hb
 unfold prA prC at hx hy
 unfold execOp
 simp only[ho,hx,hy]
 go_simp
 by_cases h0:x.key.toList=y.key.toList<;>by_cases h1:x.val.k=y.val.k<;>by_cases h2:x.val.n=y.val.n<;>by_cases h3:(x.val.f:Int)=(y.val.f:Int)<;>by_cases h4:x.val.s.toList=y.val.s.toList<;>simp[h0,h1,h2,h3,h4]
theorem same_ext{a b:List Dct.Pr}{n:Nat}(ha:a.length=n)(hb:b.length=n):(∀i x y,i<n→a[i]?=some x→b[i]?=some y→¬x=y→decide (a=b)=false)∧((∀i,i<n→a[i]?=b[i]?)→decide (a=b)=true):=by
 refine⟨fun i x y hi hx hy hne=>decide_eq_false fun h=>?_,fun h=>decide_eq_true (List.ext_getElem? fun i=>?_)⟩
 ·subst h
  rw[hx] at hy
  injection hy with hy
  exact hne hy
 ·by_cases hi:i<n
  ·exact h i hi
  ·rw[List.getElem?_eq_none (by omega),List.getElem?_eq_none (by omega)]
theorem same_any(A B:Option Addr)(c n d m:Nat)(a b:List Dct.Pr)(w:World)(hs:Sl w A n c a)(ht:Sl w B m d b):
  Calls Tryz.prog 87 #[.slice A n c,.slice B m d] w (IsB (decide (a=b)) w):=by
 have HK:=zH (Kn.start w)
 by_cases hnm:n=m
 case neg=>
  have hd:decide (a=b)=false:=decide_eq_false fun h=>hnm (by rw[← hs.len,← ht.len,h])
  rw[hd]
  have hnm2:((n:Int) != (m:Int))=true:=by simp;omega
  clear hs ht hd
  go_enter Tryz.func87,Tryz.ntmps87
  go_wp2_with fail
  go_ret
  exact⟨rfl,HK.out.b⟩
 case pos=>
 subst hnm
 obtain⟨hno,hyes⟩:=same_ext hs.len ht.len
 have HNo:=zH hno
 have HYes:=zH hyes
 have HS:=zH hs
 have HT:=zH ht
 have HG:Hid (∀k,k<n→(∃x,a[k]?=some x)∧∃y,b[k]?=some y):=zH fun k hk=>⟨Lay.get_of (l:=a) (k:=k) (by rw[hs.len];exact hk),Lay.get_of (l:=b) (k:=k) (by rw[ht.len];exact hk)⟩
 have hn63:n<9223372036854775807:=Nat.lt_of_le_of_lt hs.big (by decide)
 clear hs ht hno hyes
 generalize decide (a=b)=r at *
 have hnm2:((n:Int) != (n:Int))=false:=by simp
 go_enter Tryz.func87,Tryz.ntmps87
 go_wp2_with fail
 go_loopw [5] (fun vi wr=>∃k:Nat,k≤n∧vi=.int .i64 k∧Hid (∀i,i<k→a[i]?=b[i]?)∧Hid (Kn w.heap.size w wr [] [])) (fun vi _=>n-(intOf vi).toNat)
 case atStart=>exact⟨0,Nat.zero_le _,rfl,zH (fun i hi=>by omega),HK⟩
 case round=>
  clear HK
  obtain⟨k,hk,rfl,HE,HK⟩:=hrel
  have hk1:(0:Int)≤(k:Int):=by omega
  by_cases hlt:k<n
  ·have hk2:(k:Int)<(n:Int):=by omega
   have hk3:k<9223372036854775807:=by omega
   obtain⟨⟨x,hx⟩,⟨y,hy⟩⟩:=HG.out k hlt
   obtain⟨b1,o1,rfl,hat1⟩:=HS.out.at (Nat.lt_of_le_of_lt (Nat.zero_le _) hlt)
   obtain⟨b2,o2,rfl,hat2⟩:=HT.out.at (Nat.lt_of_le_of_lt (Nat.zero_le _) hlt)
   have HX:=zH (fun W hW=>hat1 W hW k x hx)
   have HY:=zH (fun W hW=>hat2 W hW k y hy)
   have HNx:=zH (HNo.out k x y hlt hx hy)
   have HEx:Hid (a[k]?=some x∧b[k]?=some y):=zH ⟨hx,hy⟩
   clear hat1 hat2 hx hy HNo HG
   go_wp2_with fail
   by_cases he:x=y
   ·have hb:(!decide (x=y))=false:=by rw[decide_eq_true he];rfl
    refine wp_region_held_drew (S:=(fun W=>Hid (Kn w.heap.size w W [] []))) (by kernel_rfl) ?_ (fun hHeld=>?_)
    ·(try dsimp only);exact zH HK.out.drew
    refine stk 0 17 rfl ?_
    refine stk 1 18 rfl ?_
    refine stk 2 19 rfl ?_ (fun w hSw=>exec_ix (i:=k) _ _ (by rfl) (by rfl) (by rfl) hlt)
    refine stk 3 20 rfl ?_ (fun w hSw=>exec_lpr (x:=x) (off:=o1+k*5) _ (by rfl) (by rfl) (HX.out _ hSw.out.b))
    refine stk 4 21 rfl ?_
    refine stk 5 22 rfl ?_
    refine stk 6 23 rfl ?_ (fun w hSw=>exec_ix (i:=k) _ _ (by rfl) (by rfl) (by rfl) hlt)
    refine stk 7 24 rfl ?_ (fun w hSw=>exec_lpr (x:=y) (off:=o2+k*5) _ (by rfl) (by rfl) (HY.out _ hSw.out.b))
    refine stk 8 25 rfl ?_ (fun w hSw=>exec_pne (x:=x) (y:=y) _ _ (by rfl) (by rfl) (by rfl) hb)
    refine wpAnyH_done (by kernel_rfl) ?_ _
    go_wp2_with (first|refine wpList_of_exec (by rfl) (exec_add1 (j:=k) _ (by rfl) (by rfl) hk3) ?_)
    exact⟨⟨k+1,hlt,rfl,zH (fun i hi=>by
     by_cases hik:i=k
     ·subst hik;rw[HEx.out.1,HEx.out.2,he]
     ·exact HE.out i (by omega)),hHeld⟩,by simp[intOf];omega⟩
   ·have hb:(!decide (x=y))=true:=by rw[decide_eq_false he];rfl
    have HR:=zH (HNx.out he)
    refine wp_region_held_drew (S:=(fun W=>Hid (Kn w.heap.size w W [] []))) (by kernel_rfl) ?_ (fun hHeld=>?_)
    ·(try dsimp only);exact zH HK.out.drew
    refine stk 0 17 rfl ?_
    refine stk 1 18 rfl ?_
    refine stk 2 19 rfl ?_ (fun w hSw=>exec_ix (i:=k) _ _ (by rfl) (by rfl) (by rfl) hlt)
    refine stk 3 20 rfl ?_ (fun w hSw=>exec_lpr (x:=x) (off:=o1+k*5) _ (by rfl) (by rfl) (HX.out _ hSw.out.b))
    refine stk 4 21 rfl ?_
    refine stk 5 22 rfl ?_
    refine stk 6 23 rfl ?_ (fun w hSw=>exec_ix (i:=k) _ _ (by rfl) (by rfl) (by rfl) hlt)
    refine stk 7 24 rfl ?_ (fun w hSw=>exec_lpr (x:=y) (off:=o2+k*5) _ (by rfl) (by rfl) (HY.out _ hSw.out.b))
    refine stk 8 25 rfl ?_ (fun w hSw=>exec_pne (x:=x) (y:=y) _ _ (by rfl) (by rfl) (by rfl) hb)
    refine wpAnyH_done (by kernel_rfl) ?_ _
    go_wp2_with fail
    go_ret
    exact⟨by rw[HR.out]<;>rfl,hHeld.out.b⟩
  ·obtain rfl:k=n:=by omega
   have HR:=zH (HYes.out HE.out)
   go_wp2_with fail
   go_ret
   exact⟨by rw[HR.out]<;>rfl,HK.out.b⟩
end
section
open Go.RowKit
theorem qsame_any(A B:Option Addr)(c n d m:Nat)(a b:List Val.V)(w:World)(hs:Sls vaLay vF w A n c a)(ht:Sls vaLay vF w B m d b):
  Calls Tryz.prog 88 #[.slice A n c,.slice B m d] w (IsB (decide (a=b)) w):=by
 have HK:=zH (Kn.start w)
 by_cases hnm:n=m
 case neg=>
  have hd:decide (a=b)=false:=decide_eq_false fun h=>hnm (by rw[← hs.len,← ht.len,h])
  rw[hd]
  have hnm2:((n:Int) != (m:Int))=true:=by simp;omega
  clear hs ht hd
  go_enter Tryz.func88,Tryz.ntmps88
  go_wp2_with fail
  go_ret
  exact⟨rfl,HK.out.b⟩
 case pos=>
 subst hnm
 obtain⟨hno,hyes⟩:=same_at hs.len ht.len
 have HNo:=zH hno
 have HYes:=zH hyes
 have HS:=zH hs
 have HT:=zH ht
 have HG:Hid (∀k,k<n→(∃x,a[k]?=some x)∧∃y,b[k]?=some y):=zH fun k hk=>⟨Lay.get_of (l:=a) (k:=k) (by rw[hs.len];exact hk),Lay.get_of (l:=b) (k:=k) (by rw[ht.len];exact hk)⟩
 have hn63:n<9223372036854775807:=by
  have h:n*40≤140737488355328:=hs.big
  omega
 clear hs ht hno hyes
 generalize decide (a=b)=r at *
 have hnm2:((n:Int) != (n:Int))=false:=by simp
 go_enter Tryz.func88,Tryz.ntmps88
 go_wp2_with fail
 go_loopw [5] (fun vi wr=>∃k:Nat,k≤n∧vi=.int .i64 k∧Hid (∀i,i<k→a[i]?=b[i]?)∧Hid (Kn w.heap.size w wr [] [])) (fun vi _=>n-(intOf vi).toNat)
 case atStart=>exact⟨0,Nat.zero_le _,rfl,zH (fun i hi=>by omega),HK⟩
 case round=>
  clear HK
  obtain⟨k,hk,rfl,HE,HK⟩:=hrel
  have hk1:(0:Int)≤(k:Int):=by omega
  by_cases hlt:k<n
  ·have hk2:(k:Int)<(n:Int):=by omega
   have hk3:k<9223372036854775807:=by omega
   obtain⟨⟨x,hx⟩,⟨y,hy⟩⟩:=HG.out k hlt
   obtain⟨b1,o1,rfl,hat1⟩:=HS.out.at (Nat.lt_of_le_of_lt (Nat.zero_le _) hlt)
   obtain⟨b2,o2,rfl,hat2⟩:=HT.out.at (Nat.lt_of_le_of_lt (Nat.zero_le _) hlt)
   have HX:=zH (fun W hW=>hat1 W hW k x hx)
   have HY:=zH (fun W hW=>hat2 W hW k y hy)
   have HNx:=zH (HNo.out k x y hlt hx hy)
   have HEx:Hid (a[k]?=some x∧b[k]?=some y):=zH ⟨hx,hy⟩
   clear hat1 hat2 hx hy HNo HG
   go_wp2_with fail
   by_cases he:x=y
   ·have hb:(!decide (x=y))=false:=by rw[decide_eq_true he];rfl
    refine wp_region_held_drew (S:=(fun W=>Hid (Kn w.heap.size w W [] []))) (by kernel_rfl) ?_ (fun hHeld=>?_)
    ·(try dsimp only);exact zH HK.out.drew
    refine stk 0 17 rfl ?_
    refine stk 1 18 rfl ?_
    refine stk 2 19 rfl ?_ (fun w hSw=>exec_slx vaLay (i:=k) _ _ (by rfl) (by rfl) (by rfl) hlt)
    refine stk 3 20 rfl ?_ (fun w hSw=>exec_slv vaLay (x:=x) (off:=o1+k*4) _ (by rfl) (by rfl) Tryz.underlying26 (HX.out _ hSw.out.b))
    refine stk 4 21 rfl ?_
    refine stk 5 22 rfl ?_
    refine stk 6 23 rfl ?_ (fun w hSw=>exec_slx vaLay (i:=k) _ _ (by rfl) (by rfl) (by rfl) hlt)
    refine stk 7 24 rfl ?_ (fun w hSw=>exec_slv vaLay (x:=y) (off:=o2+k*4) _ (by rfl) (by rfl) Tryz.underlying26 (HY.out _ hSw.out.b))
    refine stk 8 25 rfl ?_ (fun w hSw=>exec_vne (v:=x) (u:=y) _ _ (by rfl) (by rfl) (by rfl) hb)
    refine wpAnyH_done (by kernel_rfl) ?_ _
    go_wp2_with (first|refine wpList_of_exec (by rfl) (exec_add1 (j:=k) _ (by rfl) (by rfl) hk3) ?_)
    exact⟨⟨k+1,hlt,rfl,zH (fun i hi=>by
     by_cases hik:i=k
     ·subst hik;rw[HEx.out.1,HEx.out.2,he]
     ·exact HE.out i (by omega)),hHeld⟩,by simp[intOf];omega⟩
   ·have hb:(!decide (x=y))=true:=by rw[decide_eq_false he];rfl
    have HR:=zH (HNx.out he)
    refine wp_region_held_drew (S:=(fun W=>Hid (Kn w.heap.size w W [] []))) (by kernel_rfl) ?_ (fun hHeld=>?_)
    ·(try dsimp only);exact zH HK.out.drew
    refine stk 0 17 rfl ?_
    refine stk 1 18 rfl ?_
    refine stk 2 19 rfl ?_ (fun w hSw=>exec_slx vaLay (i:=k) _ _ (by rfl) (by rfl) (by rfl) hlt)
    refine stk 3 20 rfl ?_ (fun w hSw=>exec_slv vaLay (x:=x) (off:=o1+k*4) _ (by rfl) (by rfl) Tryz.underlying26 (HX.out _ hSw.out.b))
    refine stk 4 21 rfl ?_
    refine stk 5 22 rfl ?_
    refine stk 6 23 rfl ?_ (fun w hSw=>exec_slx vaLay (i:=k) _ _ (by rfl) (by rfl) (by rfl) hlt)
    refine stk 7 24 rfl ?_ (fun w hSw=>exec_slv vaLay (x:=y) (off:=o2+k*4) _ (by rfl) (by rfl) Tryz.underlying26 (HY.out _ hSw.out.b))
    refine stk 8 25 rfl ?_ (fun w hSw=>exec_vne (v:=x) (u:=y) _ _ (by rfl) (by rfl) (by rfl) hb)
    refine wpAnyH_done (by kernel_rfl) ?_ _
    go_wp2_with fail
    go_ret
    exact⟨by rw[HR.out]<;>rfl,hHeld.out.b⟩
  ·obtain rfl:k=n:=by omega
   have HR:=zH (HYes.out HE.out)
   go_wp2_with fail
   go_ret
   exact⟨by rw[HR.out]<;>rfl,HK.out.b⟩
end
section
open Go.RowKit
theorem lsame_any(A B:Option Addr)(c n d m:Nat)(a b:List Rf)(w:World)(hs:Sls rfLay rF w A n c a)(ht:Sls rfLay rF w B m d b):
  Calls Tryz.prog 89 #[.slice A n c,.slice B m d] w (IsB (decide (a=b)) w):=by
 have HK:=zH (Kn.start w)
 by_cases hnm:n=m
 case neg=>
  have hd:decide (a=b)=false:=decide_eq_false fun h=>hnm (by rw[← hs.len,← ht.len,h])
  rw[hd]
  have hnm2:((n:Int) != (m:Int))=true:=by simp;omega
  clear hs ht hd
  go_enter Tryz.func89,Tryz.ntmps89
  go_wp2_with fail
  go_ret
  exact⟨rfl,HK.out.b⟩
 case pos=>
 subst hnm
 obtain⟨hno,hyes⟩:=same_at hs.len ht.len
 have HNo:=zH hno
 have HYes:=zH hyes
 have HS:=zH hs
 have HT:=zH ht
 have HG:Hid (∀k,k<n→(∃x,a[k]?=some x)∧∃y,b[k]?=some y):=zH fun k hk=>⟨Lay.get_of (l:=a) (k:=k) (by rw[hs.len];exact hk),Lay.get_of (l:=b) (k:=k) (by rw[ht.len];exact hk)⟩
 have hn63:n<9223372036854775807:=by
  have h:n*24≤140737488355328:=hs.big
  omega
 clear hs ht hno hyes
 generalize decide (a=b)=r at *
 have hnm2:((n:Int) != (n:Int))=false:=by simp
 go_enter Tryz.func89,Tryz.ntmps89
 go_wp2_with fail
 go_loopw [5] (fun vi wr=>∃k:Nat,k≤n∧vi=.int .i64 k∧Hid (∀i,i<k→a[i]?=b[i]?)∧Hid (Kn w.heap.size w wr [] [])) (fun vi _=>n-(intOf vi).toNat)
 case atStart=>exact⟨0,Nat.zero_le _,rfl,zH (fun i hi=>by omega),HK⟩
 case round=>
  clear HK
  obtain⟨k,hk,rfl,HE,HK⟩:=hrel
  have hk1:(0:Int)≤(k:Int):=by omega
  by_cases hlt:k<n
  ·have hk2:(k:Int)<(n:Int):=by omega
   have hk3:k<9223372036854775807:=by omega
   obtain⟨⟨x,hx⟩,⟨y,hy⟩⟩:=HG.out k hlt
   obtain⟨b1,o1,rfl,hat1⟩:=HS.out.at (Nat.lt_of_le_of_lt (Nat.zero_le _) hlt)
   obtain⟨b2,o2,rfl,hat2⟩:=HT.out.at (Nat.lt_of_le_of_lt (Nat.zero_le _) hlt)
   have HX:=zH (fun W hW=>hat1 W hW k x hx)
   have HY:=zH (fun W hW=>hat2 W hW k y hy)
   have HNx:=zH (HNo.out k x y hlt hx hy)
   have HEx:Hid (a[k]?=some x∧b[k]?=some y):=zH ⟨hx,hy⟩
   clear hat1 hat2 hx hy HNo HG
   go_wp2_with fail
   by_cases he:x=y
   ·have hb:(!decide (x=y))=false:=by rw[decide_eq_true he];rfl
    refine wp_region_held_drew (S:=(fun W=>Hid (Kn w.heap.size w W [] []))) (by kernel_rfl) ?_ (fun hHeld=>?_)
    ·(try dsimp only);exact zH HK.out.drew
    refine stk 0 17 rfl ?_
    refine stk 1 18 rfl ?_
    refine stk 2 19 rfl ?_ (fun w hSw=>exec_ixr (i:=k) _ _ (by rfl) (by rfl) (by rfl) hlt)
    refine stk 3 20 rfl ?_ (fun w hSw=>exec_lr (x:=x) (off:=o1+k*3) _ (by rfl) (by rfl) (HX.out _ hSw.out.b))
    refine stk 4 21 rfl ?_
    refine stk 5 22 rfl ?_
    refine stk 6 23 rfl ?_ (fun w hSw=>exec_ixr (i:=k) _ _ (by rfl) (by rfl) (by rfl) hlt)
    refine stk 7 24 rfl ?_ (fun w hSw=>exec_lr (x:=y) (off:=o2+k*3) _ (by rfl) (by rfl) (HY.out _ hSw.out.b))
    refine stk 8 25 rfl ?_ (fun w hSw=>exec_rne (v:=x) (u:=y) _ _ (by rfl) (by rfl) (by rfl) hb)
    refine wpAnyH_done (by kernel_rfl) ?_ _
    go_wp2_with (first|refine wpList_of_exec (by rfl) (exec_add1 (j:=k) _ (by rfl) (by rfl) hk3) ?_)
    exact⟨⟨k+1,hlt,rfl,zH (fun i hi=>by
     by_cases hik:i=k
     ·subst hik;rw[HEx.out.1,HEx.out.2,he]
     ·exact HE.out i (by omega)),hHeld⟩,by simp[intOf];omega⟩
   ·have hb:(!decide (x=y))=true:=by rw[decide_eq_false he];rfl
    have HR:=zH (HNx.out he)
    refine wp_region_held_drew (S:=(fun W=>Hid (Kn w.heap.size w W [] []))) (by kernel_rfl) ?_ (fun hHeld=>?_)
    ·(try dsimp only);exact zH HK.out.drew
    refine stk 0 17 rfl ?_
    refine stk 1 18 rfl ?_
    refine stk 2 19 rfl ?_ (fun w hSw=>exec_ixr (i:=k) _ _ (by rfl) (by rfl) (by rfl) hlt)
    refine stk 3 20 rfl ?_ (fun w hSw=>exec_lr (x:=x) (off:=o1+k*3) _ (by rfl) (by rfl) (HX.out _ hSw.out.b))
    refine stk 4 21 rfl ?_
    refine stk 5 22 rfl ?_
    refine stk 6 23 rfl ?_ (fun w hSw=>exec_ixr (i:=k) _ _ (by rfl) (by rfl) (by rfl) hlt)
    refine stk 7 24 rfl ?_ (fun w hSw=>exec_lr (x:=y) (off:=o2+k*3) _ (by rfl) (by rfl) (HY.out _ hSw.out.b))
    refine stk 8 25 rfl ?_ (fun w hSw=>exec_rne (v:=x) (u:=y) _ _ (by rfl) (by rfl) (by rfl) hb)
    refine wpAnyH_done (by kernel_rfl) ?_ _
    go_wp2_with fail
    go_ret
    exact⟨by rw[HR.out]<;>rfl,hHeld.out.b⟩
  ·obtain rfl:k=n:=by omega
   have HR:=zH (HYes.out HE.out)
   go_wp2_with fail
   go_ret
   exact⟨by rw[HR.out]<;>rfl,HK.out.b⟩
end
section
open Go.RowKit
theorem Kn.two2{b0:Nat}{w0 w:World}{R:List RowE}{a b:Nat×TypeId×Array Value}(h:Kn b0 w0 w [a,b] R):Kn b0 w0 w [b,a] R:=by
 refine h.pick (fun i=>1-i) id (fun i j hi hj h=>?_) (fun i j _ _ h=>h) (fun i x hx=>?_) (fun i x hx=>hx)
 ·simp at hi hj;omega
 ·match i,hx with
  | 0,hx=>exact hx
  | 1,hx=>exact hx
theorem step_aob{b0:Nat}{w0 w:World}{L:List (Nat×TypeId×Array Value)}{R:List RowE}{ops:Array Oper}{o:Oper}{a:Act}{Q:Exit→Act→World→Prop}{K:Act→World→Prop}{E:Prop}(HK:Hid (Kn b0 w0 w L R))(hgd:o.guard=none)(ho:o.op=.alloc 63)
  (h:∀w' g,Hid (Kn b0 w0 w' (L++[(g,63,obA ohZ)]) R)→Hid (Below w.heap.size w w')→K (a.put o.dst (.pointer (some ⟨g,0,none⟩))) w'):if Region.wanted o (yielded ops a.tmps)=true then Oper.wp Tryz.prog o a w K Q else E:=by
 rw[if_pos (by simp[Region.wanted,hgd])]
 have h4:=h _ w.heap.size (zH (HK.out.alloc 63 (obA ohZ))) (zH ((Below.refl _ w).alloc (Nat.le_refl _) _))
 have hr:(Instr.alloc 63 true (.tuple #[])).run Tryz.prog w=.ok (.pointer (some ⟨w.heap.size,0,none⟩)) (w.alloc (.cells (obA ohZ) 63)):=obLay.run_alloc w
 unfold Oper.wp execOp
 simp only[ho,Sem.run_bind,Sem.run_pure,hr,Result.andThen_ok]
 exact h4
theorem step_sob{b0:Nat}{w0 w:World}{L:List (Nat×TypeId×Array Value)}{R:List RowE}{ops:Array Oper}{o:Oper}{a:Act}{Q:Exit→Act→World→Prop}{K:Act→World→Prop}{E:Prop}{g:Nat}{x y:Oh}(HK:Hid (Kn b0 w0 w L R))(i:Nat)(hgd:o.guard=none)(p q:Operand)(ho:o.op=.store 63 p q)(hL:L[i]?=some (g,63,obA x))(hx:a.eval p=.pointer (some ⟨g,0,none⟩))(hy:a.eval q=.agg (obA y))
  (h:∀w',Hid (Kn b0 w0 w' (L.set i (g,63,obA y)) R)→K (a.put o.dst undef) w'):if Region.wanted o (yielded ops a.tmps)=true then Oper.wp Tryz.prog o a w K Q else E:=
 step_st obLay (p2:=y) HK i hgd p q ho hL rfl hx hy h
theorem osame_any(A B:Option Addr)(c n d m:Nat)(a b:List Oh)(w:World)(hs:Obs w A n c a)(ht:Obs w B m d b):
  Calls Tryz.prog 44 #[.slice A n c,.slice B m d] w (IsB (decide (vs a=vs b)) w):=by
 have HK:=zH (Kn.start w)
 unfold IsB
 by_cases hnm:n=m
 case neg=>
  have hd:decide (vs a=vs b)=false:=decide_eq_false fun h=>hnm (by rw[← hs.len,← ht.len,← vs_len a,← vs_len b,h])
  rw[hd]
  have hnm2:((n:Int) != (m:Int))=true:=by simp;omega
  clear hs ht hd
  go_enter Tryz.func44,Tryz.ntmps44
  go_wp2_with fail
  go_ret
  exact⟨rfl,HK.out.b⟩
 case pos=>
 subst hnm
 obtain⟨hno,hyes⟩:=same_at (a:=vs a) (b:=vs b) (n:=n) (by rw[vs_len];exact hs.len) (by rw[vs_len];exact ht.len)
 have HNo:=zH hno
 have HYes:=zH hyes
 have HS:=zH hs
 have HT:=zH ht
 have hbig:n*144≤140737488355328:=hs.s.big
 have hn63:n<9223372036854775807:=by omega
 have HP:=zH same_any
 have HV:=zH qsame_any
 have HR:=zH lsame_any
 unfold IsB at HP HV HR
 clear hs ht hno hyes hbig
 generalize decide (vs a=vs b)=r at *
 have hnm2:((n:Int) != (n:Int))=false:=by simp
 go_enter Tryz.func44,Tryz.ntmps44
 go_wp2_with fail
 go_loopw [5] (fun vi wr=>∃k:Nat,k≤n∧vi=.int .i64 k∧Hid (∀i,i<k→(vs a)[i]?=(vs b)[i]?)∧Hid (Kn w.heap.size w wr [] [])) (fun vi _=>n-(intOf vi).toNat)
 case atStart=>exact⟨0,Nat.zero_le _,rfl,zH (fun i hi=>by omega),HK⟩
 case round=>
  clear HK
  obtain⟨k,hk,rfl,HE,HK⟩:=hrel
  have hk1:(0:Int)≤(k:Int):=by omega
  by_cases hlt:k<n
  case neg=>
   obtain rfl:k=n:=by omega
   have HRr:Hid (r=true):=zH (HYes.out HE.out)
   go_wp2_with fail
   go_ret
   exact⟨by rw[HRr.out]<;>rfl,HK.out.b⟩
  case pos=>
  have hk2:(k:Int)<(n:Int):=by omega
  have hk3:k<9223372036854775807:=by omega
  obtain⟨x,hx,hix⟩:=HS.out.get hlt
  obtain⟨y,hy,hiy⟩:=HT.out.get hlt
  obtain⟨b1,o1,rfl,hat1⟩:=HS.out.s.at (Nat.lt_of_le_of_lt (Nat.zero_le _) hlt)
  obtain⟨b2,o2,rfl,hat2⟩:=HT.out.s.at (Nat.lt_of_le_of_lt (Nat.zero_le _) hlt)
  have HX:Hid (∀W,Below w.heap.size w W→∀j v,(obL x)[j]?=some v→W.cell? ⟨b1,o1+k*11+j,none⟩=some v):=zH (fun W hW=>hat1 W hW k x hx)
  have HY:Hid (∀W,Below w.heap.size w W→∀j v,(obL y)[j]?=some v→W.cell? ⟨b2,o2+k*11+j,none⟩=some v):=zH (fun W hW=>hat2 W hW k y hy)
  have HNx:=zH (HNo.out k x.v y.v hlt (vs_get hx) (vs_get hy))
  have HEx:Hid (x.v=y.v→(vs a)[k]?=(vs b)[k]?):=zH fun h=>by rw[vs_get hx,vs_get hy,h]
  have HIx:=zH hix
  have HIy:=zH hiy
  clear hat1 hat2 hx hy HNo HYes hix hiy HS HT
  go_wp2_with fail
  go_cut [6,7] (fun s6 s7 wx=>∃(gx gy:Nat),s6=.pointer (some ⟨gx,0,none⟩)∧s7=.pointer (some ⟨gy,0,none⟩)∧Hid (Kn w.heap.size w wx [(gx,63,obA x),(gy,63,obA y)] []))
  case first=>
   replace HK:=zH HK.out.drew
   have HH:=HK
   refine wp_region_held_drew (S:=(fun W=>Hid (Kn w.heap.size w W [] []))) (by kernel_rfl) ?_ (fun hHeld=>?_)
   ·(try dsimp only);exact HH
   refine stk 0 19 rfl ?_
   refine stk 1 20 rfl ?_
   refine stk 2 21 rfl ?_ (fun w hSw=>exec_ixo (i:=k) _ _ (by rfl) (by rfl) (by rfl) hlt)
   refine stk 3 22 rfl ?_ (fun w hSw=>exec_obx (off:=o1+k*11) _ (by rfl) (by rfl) (HX.out _ hSw.out.b))
   refine stk 4 23 rfl ?_
   refine stk 5 24 rfl ?_
   refine stk 6 25 rfl ?_ (fun w hSw=>exec_ixo (i:=k) _ _ (by rfl) (by rfl) (by rfl) hlt)
   refine stk 7 26 rfl ?_ (fun w hSw=>exec_obx (off:=o2+k*11) _ (by rfl) (by rfl) (HY.out _ hSw.out.b))
   refine srd2 8 (some 6) 9 (some 7) rfl rfl (fun K hK=>?_) (fun K hK=>?_)
   refine step_aob HK (by rfl) (by rfl) ?_;intro wA gx HK' _;simp only[lcA,lnA] at HK';replace HK:=HK';clear HK';have hs:=zH (HK.out.takeL 0)
   refine hK.out _ _ hs (fun hHeld=>?_)
   clear hK K
   try simp only[ap1,ap2,ap3,ap4,ap5]
   refine srd1 9 (some 7) rfl (fun K hK=>?_)
   refine step_aob HK (by rfl) (by rfl) ?_;intro wA gy HK' _;simp only[lcA,lnA] at HK';replace HK:=HK';clear HK';have hs:=zH (HK.out.takeL 0)
   refine hK.out _ _ hs (fun hHeld=>?_)
   clear hK K
   try simp only[ap1,ap2,ap3,ap4,ap5]
   refine srd1 10 none rfl (fun K hK=>?_)
   first|(refine step_sob HK 0 (by rfl) _ _ (by rfl) (by rfl) (by rfl) (by rfl) ?_;intro _ HK';simp only[List.set] at HK';replace HK:=HK';clear HK';have hs:=zH (HK.out.takeL 0))|(refine step_sob HK 1 (by rfl) _ _ (by rfl) (by rfl) (by rfl) (by rfl) ?_;intro _ HK';simp only[List.set] at HK';replace HK:=HK';clear HK';have hs:=zH (HK.out.takeL 0))
   refine hK.out _ _ hs (fun hHeld=>?_)
   clear hK K
   try simp only[ap1,ap2,ap3,ap4,ap5]
   refine srd1 11 none rfl (fun K hK=>?_)
   first|(refine step_sob HK 0 (by rfl) _ _ (by rfl) (by rfl) (by rfl) (by rfl) ?_;intro _ HK';simp only[List.set] at HK';replace HK:=HK';clear HK';have hs:=zH (HK.out.takeL 0))|(refine step_sob HK 1 (by rfl) _ _ (by rfl) (by rfl) (by rfl) (by rfl) ?_;intro _ HK';simp only[List.set] at HK';replace HK:=HK';clear HK';have hs:=zH (HK.out.takeL 0))
   refine hK.out _ _ hs (fun hHeld=>?_)
   clear hK K
   try simp only[ap1,ap2,ap3,ap4,ap5]
   refine wpAnyH_done (by kernel_rfl) ?_ _
   rotate_left
   refine step_aob HK (by rfl) (by rfl) ?_;intro wA gy HK' _;simp only[lcA,lnA] at HK';replace HK:=HK';clear HK';have hs:=zH (HK.out.takeL 0)
   refine hK.out _ _ hs (fun hHeld=>?_)
   clear hK K
   try simp only[ap1,ap2,ap3,ap4,ap5]
   refine srd1 8 (some 6) rfl (fun K hK=>?_)
   refine step_aob HK (by rfl) (by rfl) ?_;intro wA gx HK' _;simp only[lcA,lnA] at HK';replace HK:=HK';clear HK';have hs:=zH (HK.out.takeL 0)
   refine hK.out _ _ hs (fun hHeld=>?_)
   clear hK K
   try simp only[ap1,ap2,ap3,ap4,ap5]
   refine srd1 10 none rfl (fun K hK=>?_)
   first|(refine step_sob HK 0 (by rfl) _ _ (by rfl) (by rfl) (by rfl) (by rfl) ?_;intro _ HK';simp only[List.set] at HK';replace HK:=HK';clear HK';have hs:=zH (HK.out.takeL 0))|(refine step_sob HK 1 (by rfl) _ _ (by rfl) (by rfl) (by rfl) (by rfl) ?_;intro _ HK';simp only[List.set] at HK';replace HK:=HK';clear HK';have hs:=zH (HK.out.takeL 0))
   refine hK.out _ _ hs (fun hHeld=>?_)
   clear hK K
   try simp only[ap1,ap2,ap3,ap4,ap5]
   refine srd1 11 none rfl (fun K hK=>?_)
   first|(refine step_sob HK 0 (by rfl) _ _ (by rfl) (by rfl) (by rfl) (by rfl) ?_;intro _ HK';simp only[List.set] at HK';replace HK:=HK';clear HK';have hs:=zH (HK.out.takeL 0))|(refine step_sob HK 1 (by rfl) _ _ (by rfl) (by rfl) (by rfl) (by rfl) ?_;intro _ HK';simp only[List.set] at HK';replace HK:=HK';clear HK';have hs:=zH (HK.out.takeL 0))
   refine hK.out _ _ hs (fun hHeld=>?_)
   clear hK K
   try simp only[ap1,ap2,ap3,ap4,ap5]
   refine wpAnyH_done (by kernel_rfl) ?_ _
   rotate_left
   all_goals
    go_wp2_with fail
    go_meet
    first
     | exact⟨gx,gy,rfl,rfl,HK⟩
     | exact⟨gx,gy,rfl,rfl,zH (Kn.two2 HK.out)⟩
  case rest=>
  clear HK HX HY
  obtain⟨gx,gy,rfl,rfl,HK⟩:=hcut
  obtain⟨⟨name,kind,cap,prs,vals,refs,round,⟨mn,ms,ml,mm⟩⟩,pA,pn,pc,vA,vn,vc,rA,rn,rc⟩:=x
  obtain⟨⟨name',kind',cap',prs',vals',refs',round',⟨mn',ms',ml',mm'⟩⟩,pA',pn',pc',vA',vn',vc',rA',rn',rc'⟩:=y
  unfold obA at HK
  simp only at HK HNx HEx
  by_cases hname:name=name'
  case neg=>
   have HRr:Hid (r=false):=zH (HNx.out fun h=>hname (congrArg Sto.Ob.name h))
   have g:¬name.toList=name'.toList:=fun h=>hname (Dct.toList_inj h)
   have c0:=HK.out.cell 0 rfl 0 (v:=.string name) rfl
   have d0:=HK.out.cell 1 rfl 0 (v:=.string name') rfl
   clear HP HV HR HE HEx HNx hname
   go_wp2_with fail
   go_ret
   exact⟨by rw[HRr.out]<;>rfl,HK.out.b⟩
  case pos=>
  subst hname
  by_cases hkind:kind=kind'
  case neg=>
   have HRr:Hid (r=false):=zH (HNx.out fun h=>hkind (congrArg Sto.Ob.kind h))
   have g:(kind != kind')=true:=by simpa using hkind
   have c0:=HK.out.cell 0 rfl 0 (v:=.string name) rfl
   have d0:=HK.out.cell 1 rfl 0 (v:=.string name) rfl
   have c1:=HK.out.cell 0 rfl 1 (v:=.int .i64 kind) rfl
   have d1:=HK.out.cell 1 rfl 1 (v:=.int .i64 kind') rfl
   clear HP HV HR HE HEx HNx hkind
   go_wp2_with fail
   go_ret
   exact⟨by rw[HRr.out]<;>rfl,HK.out.b⟩
  case pos=>
  subst hkind
  by_cases hcap:cap=cap'
  case neg=>
   have HRr:Hid (r=false):=zH (HNx.out fun h=>hcap (congrArg Sto.Ob.cap h))
   have g:(cap != cap')=true:=by simpa using hcap
   have c0:=HK.out.cell 0 rfl 0 (v:=.string name) rfl
   have d0:=HK.out.cell 1 rfl 0 (v:=.string name) rfl
   have c1:=HK.out.cell 0 rfl 1 (v:=.int .i64 kind) rfl
   have d1:=HK.out.cell 1 rfl 1 (v:=.int .i64 kind) rfl
   have c2:=HK.out.cell 0 rfl 2 (v:=.int .i64 cap) rfl
   have d2:=HK.out.cell 1 rfl 2 (v:=.int .i64 cap') rfl
   clear HP HV HR HE HEx HNx hcap
   go_wp2_with fail
   go_ret
   exact⟨by rw[HRr.out]<;>rfl,HK.out.b⟩
  case pos=>
  subst hcap
  by_cases hround:round=round'
  case neg=>
   have HRr:Hid (r=false):=zH (HNx.out fun h=>hround (congrArg Sto.Ob.round h))
   have g:(round != round')=true:=by simpa using hround
   have c0:=HK.out.cell 0 rfl 0 (v:=.string name) rfl
   have d0:=HK.out.cell 1 rfl 0 (v:=.string name) rfl
   have c1:=HK.out.cell 0 rfl 1 (v:=.int .i64 kind) rfl
   have d1:=HK.out.cell 1 rfl 1 (v:=.int .i64 kind) rfl
   have c2:=HK.out.cell 0 rfl 2 (v:=.int .i64 cap) rfl
   have d2:=HK.out.cell 1 rfl 2 (v:=.int .i64 cap) rfl
   have c6:=HK.out.cell 0 rfl 6 (v:=.int .i64 round) rfl
   have d6:=HK.out.cell 1 rfl 6 (v:=.int .i64 round') rfl
   clear HP HV HR HE HEx HNx hround
   go_wp2_with fail
   go_ret
   exact⟨by rw[HRr.out]<;>rfl,HK.out.b⟩
  case pos=>
  subst hround
  by_cases hmn:mn=mn'
  case neg=>
   have HRr:Hid (r=false):=zH (HNx.out fun h=>hmn (congrArg (fun o:Sto.Ob=>o.mt.n) h))
   have c0:=HK.out.cell 0 rfl 0 (v:=.string name) rfl
   have d0:=HK.out.cell 1 rfl 0 (v:=.string name) rfl
   have c1:=HK.out.cell 0 rfl 1 (v:=.int .i64 kind) rfl
   have d1:=HK.out.cell 1 rfl 1 (v:=.int .i64 kind) rfl
   have c2:=HK.out.cell 0 rfl 2 (v:=.int .i64 cap) rfl
   have d2:=HK.out.cell 1 rfl 2 (v:=.int .i64 cap) rfl
   have c6:=HK.out.cell 0 rfl 6 (v:=.int .i64 round) rfl
   have d6:=HK.out.cell 1 rfl 6 (v:=.int .i64 round) rfl
   have c7:=HK.out.cell 0 rfl 7 (v:=.int .i64 mn) rfl
   have d7:=HK.out.cell 1 rfl 7 (v:=.int .i64 mn') rfl
   have c8:=HK.out.cell 0 rfl 8 (v:=.int .u64 (ms:Int)) rfl
   have d8:=HK.out.cell 1 rfl 8 (v:=.int .u64 (ms':Int)) rfl
   have c9:=HK.out.cell 0 rfl 9 (v:=.int .u64 (ml:Int)) rfl
   have d9:=HK.out.cell 1 rfl 9 (v:=.int .u64 (ml':Int)) rfl
   have c10:=HK.out.cell 0 rfl 10 (v:=.int .u64 (mm:Int)) rfl
   have d10:=HK.out.cell 1 rfl 10 (v:=.int .u64 (mm':Int)) rfl
   clear HP HV HR HE HEx HNx
   go_wp2_with fail
   go_ret
   exact⟨by rw[HRr.out]<;>rfl,HK.out.b⟩
  case pos=>
  subst hmn
  by_cases hms:ms=ms'
  case neg=>
   have HRr:Hid (r=false):=zH (HNx.out fun h=>hms (congrArg (fun o:Sto.Ob=>o.mt.s) h))
   have g:¬(ms:Int)=(ms':Int):=by omega
   have c0:=HK.out.cell 0 rfl 0 (v:=.string name) rfl
   have d0:=HK.out.cell 1 rfl 0 (v:=.string name) rfl
   have c1:=HK.out.cell 0 rfl 1 (v:=.int .i64 kind) rfl
   have d1:=HK.out.cell 1 rfl 1 (v:=.int .i64 kind) rfl
   have c2:=HK.out.cell 0 rfl 2 (v:=.int .i64 cap) rfl
   have d2:=HK.out.cell 1 rfl 2 (v:=.int .i64 cap) rfl
   have c6:=HK.out.cell 0 rfl 6 (v:=.int .i64 round) rfl
   have d6:=HK.out.cell 1 rfl 6 (v:=.int .i64 round) rfl
   have c7:=HK.out.cell 0 rfl 7 (v:=.int .i64 mn) rfl
   have d7:=HK.out.cell 1 rfl 7 (v:=.int .i64 mn) rfl
   have c8:=HK.out.cell 0 rfl 8 (v:=.int .u64 (ms:Int)) rfl
   have d8:=HK.out.cell 1 rfl 8 (v:=.int .u64 (ms':Int)) rfl
   have c9:=HK.out.cell 0 rfl 9 (v:=.int .u64 (ml:Int)) rfl
   have d9:=HK.out.cell 1 rfl 9 (v:=.int .u64 (ml':Int)) rfl
   have c10:=HK.out.cell 0 rfl 10 (v:=.int .u64 (mm:Int)) rfl
   have d10:=HK.out.cell 1 rfl 10 (v:=.int .u64 (mm':Int)) rfl
   clear HP HV HR HE HEx HNx
   go_wp2_with fail
   go_ret
   exact⟨by rw[HRr.out]<;>rfl,HK.out.b⟩
  case pos=>
  subst hms
  by_cases hml:ml=ml'
  case neg=>
   have HRr:Hid (r=false):=zH (HNx.out fun h=>hml (congrArg (fun o:Sto.Ob=>o.mt.l) h))
   have g:¬(ml:Int)=(ml':Int):=by omega
   have c0:=HK.out.cell 0 rfl 0 (v:=.string name) rfl
   have d0:=HK.out.cell 1 rfl 0 (v:=.string name) rfl
   have c1:=HK.out.cell 0 rfl 1 (v:=.int .i64 kind) rfl
   have d1:=HK.out.cell 1 rfl 1 (v:=.int .i64 kind) rfl
   have c2:=HK.out.cell 0 rfl 2 (v:=.int .i64 cap) rfl
   have d2:=HK.out.cell 1 rfl 2 (v:=.int .i64 cap) rfl
   have c6:=HK.out.cell 0 rfl 6 (v:=.int .i64 round) rfl
   have d6:=HK.out.cell 1 rfl 6 (v:=.int .i64 round) rfl
   have c7:=HK.out.cell 0 rfl 7 (v:=.int .i64 mn) rfl
   have d7:=HK.out.cell 1 rfl 7 (v:=.int .i64 mn) rfl
   have c8:=HK.out.cell 0 rfl 8 (v:=.int .u64 (ms:Int)) rfl
   have d8:=HK.out.cell 1 rfl 8 (v:=.int .u64 (ms:Int)) rfl
   have c9:=HK.out.cell 0 rfl 9 (v:=.int .u64 (ml:Int)) rfl
   have d9:=HK.out.cell 1 rfl 9 (v:=.int .u64 (ml':Int)) rfl
   have c10:=HK.out.cell 0 rfl 10 (v:=.int .u64 (mm:Int)) rfl
   have d10:=HK.out.cell 1 rfl 10 (v:=.int .u64 (mm':Int)) rfl
   clear HP HV HR HE HEx HNx
   go_wp2_with fail
   go_ret
   exact⟨by rw[HRr.out]<;>rfl,HK.out.b⟩
  case pos=>
  subst hml
  by_cases hmm:mm=mm'
  case neg=>
   have HRr:Hid (r=false):=zH (HNx.out fun h=>hmm (congrArg (fun o:Sto.Ob=>o.mt.m) h))
   have g:¬(mm:Int)=(mm':Int):=by omega
   have c0:=HK.out.cell 0 rfl 0 (v:=.string name) rfl
   have d0:=HK.out.cell 1 rfl 0 (v:=.string name) rfl
   have c1:=HK.out.cell 0 rfl 1 (v:=.int .i64 kind) rfl
   have d1:=HK.out.cell 1 rfl 1 (v:=.int .i64 kind) rfl
   have c2:=HK.out.cell 0 rfl 2 (v:=.int .i64 cap) rfl
   have d2:=HK.out.cell 1 rfl 2 (v:=.int .i64 cap) rfl
   have c6:=HK.out.cell 0 rfl 6 (v:=.int .i64 round) rfl
   have d6:=HK.out.cell 1 rfl 6 (v:=.int .i64 round) rfl
   have c7:=HK.out.cell 0 rfl 7 (v:=.int .i64 mn) rfl
   have d7:=HK.out.cell 1 rfl 7 (v:=.int .i64 mn) rfl
   have c8:=HK.out.cell 0 rfl 8 (v:=.int .u64 (ms:Int)) rfl
   have d8:=HK.out.cell 1 rfl 8 (v:=.int .u64 (ms:Int)) rfl
   have c9:=HK.out.cell 0 rfl 9 (v:=.int .u64 (ml:Int)) rfl
   have d9:=HK.out.cell 1 rfl 9 (v:=.int .u64 (ml:Int)) rfl
   have c10:=HK.out.cell 0 rfl 10 (v:=.int .u64 (mm:Int)) rfl
   have d10:=HK.out.cell 1 rfl 10 (v:=.int .u64 (mm':Int)) rfl
   clear HP HV HR HE HEx HNx
   go_wp2_with fail
   go_ret
   exact⟨by rw[HRr.out]<;>rfl,HK.out.b⟩
  case pos=>
  subst hmm
  have c0:=HK.out.cell 0 rfl 0 (v:=.string name) rfl
  have d0:=HK.out.cell 1 rfl 0 (v:=.string name) rfl
  have c1:=HK.out.cell 0 rfl 1 (v:=.int .i64 kind) rfl
  have d1:=HK.out.cell 1 rfl 1 (v:=.int .i64 kind) rfl
  have c2:=HK.out.cell 0 rfl 2 (v:=.int .i64 cap) rfl
  have d2:=HK.out.cell 1 rfl 2 (v:=.int .i64 cap) rfl
  have c6:=HK.out.cell 0 rfl 6 (v:=.int .i64 round) rfl
  have d6:=HK.out.cell 1 rfl 6 (v:=.int .i64 round) rfl
  have c7:=HK.out.cell 0 rfl 7 (v:=.int .i64 mn) rfl
  have d7:=HK.out.cell 1 rfl 7 (v:=.int .i64 mn) rfl
  have c8:=HK.out.cell 0 rfl 8 (v:=.int .u64 (ms:Int)) rfl
  have d8:=HK.out.cell 1 rfl 8 (v:=.int .u64 (ms:Int)) rfl
  have c9:=HK.out.cell 0 rfl 9 (v:=.int .u64 (ml:Int)) rfl
  have d9:=HK.out.cell 1 rfl 9 (v:=.int .u64 (ml:Int)) rfl
  have c10:=HK.out.cell 0 rfl 10 (v:=.int .u64 (mm:Int)) rfl
  have d10:=HK.out.cell 1 rfl 10 (v:=.int .u64 (mm:Int)) rfl
  have c3:=HK.out.cell 0 rfl 3 (v:=.slice pA pn pc) rfl
  have d3:=HK.out.cell 1 rfl 3 (v:=.slice pA' pn' pc') rfl
  go_wp2_with fail
  refine(HP.out _ _ _ _ _ _ _ _ _ (HIx.out.p.later HK.out.b) (HIy.out.p.later HK.out.b)).mono ?_;rintro e w1 ⟨rfl,b1⟩
  clear c0 d0 c1 d1 c2 d2 c6 d6 c7 d7 c8 d8 c9 d9 c10 d10 c3 d3
  replace HK:=hkC HK b1;clear b1
  by_cases hprs:prs=prs'
  case neg=>
   have HRr:Hid (r=false):=zH (HNx.out fun h=>hprs (congrArg Sto.Ob.prs h))
   rw[decide_eq_false hprs]
   go_wp2_with fail
   go_ret
   exact⟨by rw[HRr.out]<;>rfl,HK.out.b⟩
  case pos=>
  rw[decide_eq_true hprs]
  have c4:=HK.out.cell 0 rfl 4 (v:=.slice vA vn vc) rfl
  have d4:=HK.out.cell 1 rfl 4 (v:=.slice vA' vn' vc') rfl
  go_wp2_with fail
  refine(HV.out _ _ _ _ _ _ _ _ _ (HIx.out.v.later HK.out.b) (HIy.out.v.later HK.out.b)).mono ?_;rintro e w1 ⟨rfl,b1⟩
  clear c4 d4
  replace HK:=hkC HK b1;clear b1
  by_cases hvals:vals=vals'
  case neg=>
   have HRr:Hid (r=false):=zH (HNx.out fun h=>hvals (congrArg Sto.Ob.vals h))
   rw[decide_eq_false hvals]
   go_wp2_with fail
   go_ret
   exact⟨by rw[HRr.out]<;>rfl,HK.out.b⟩
  case pos=>
  rw[decide_eq_true hvals]
  have c5:=HK.out.cell 0 rfl 5 (v:=.slice rA rn rc) rfl
  have d5:=HK.out.cell 1 rfl 5 (v:=.slice rA' rn' rc') rfl
  go_wp2_with fail
  refine(HR.out _ _ _ _ _ _ _ _ _ (HIx.out.r.later HK.out.b) (HIy.out.r.later HK.out.b)).mono ?_;rintro e w1 ⟨rfl,b1⟩
  clear c5 d5
  replace HK:=hkC HK b1;clear b1
  by_cases hrefs:refs=refs'
  case neg=>
   have HRr:Hid (r=false):=zH (HNx.out fun h=>hrefs (congrArg Sto.Ob.refs h))
   rw[decide_eq_false hrefs]
   go_wp2_with fail
   go_ret
   exact⟨by rw[HRr.out]<;>rfl,HK.out.b⟩
  case pos=>
  rw[decide_eq_true hrefs]
  have HEk:=zH (HEx.out (by rw[hprs,hvals,hrefs]))
  go_wp2_with (first|refine zX (exec_add1 (j:=k) _ (by rfl) (by rfl) hk3) ?_)
  exact⟨⟨k+1,by omega,by go_num,zH (fun i hi=>by
   by_cases hik:i=k
   ·rw[hik];exact HEk.out
   ·exact HE.out i (by omega)),zH (HK.out.takeL 0)⟩,by simp[intOf];omega⟩
end
end Go.Proofs.YtieoeendnccafaaGreat
