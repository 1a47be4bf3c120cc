/- What phalanx/phalanxref12.Same returns (whether two slices have the same things). No condition but those named. -/
import Derived.Test.YtieoeendnccafaaNTK
import Derived.Test.YtieoeendnccafaaNAI
import Derived.Test.YtieoeendnccafaaNAM
import Derived.Deep.CutBlock
import Derived.Deep.DeepCutAuto
set_option linter.unusedSimpArgs false
set_option linter.unusedVariables false
set_option maxRecDepth 100000
set_option maxHeartbeats 25600000
namespace Go.Proofs.Ytieoeendnccafaa
section
open Go.RowKit
theorem Sl.cells{w:World}{b o n c:Nat}{l:List Dct.Pr}(h:Sl w (some ⟨b,o,Option.none⟩) n c l){i:Nat}{x:Dct.Pr}(hx:l[i]?=some x):∀j v,(prL x)[j]?=some v→w.cell? ⟨b,o+i*5+j,Option.none⟩=some v:=by
 have hi:=(List.getElem?_eq_some_iff.1 hx).1
 obtain⟨b',o',e,hat⟩:=h.at (by rw[← h.len];omega)
 injection e with e
 injection e with e1 e2
 subst e1 e2
 exact hat w (Below.refl _ w) i x hx
theorem exec_pne{w:World}{o:Oper}{a:Act}{x y:Dct.Pr}{b:Bool}(p q:Operand)(ho:o.op=.binOp .neq 101 p q 101)(hx:a.eval p=.agg (prA x))(hy:a.eval q=.agg (prA y))(hb:(!decide (x=y))=b):
  (execOp a.eval o).run Try.prog w=.ok (.value (.bool b)) w:=by
 have e:decide (x=y)=(decide (x.key.toList=y.key.toList)&&(decide (x.val.k=y.val.k)&&decide (x.val.n=y.val.n)&&decide ((x.val.f:Int)=(y.val.f:Int))&&decide (x.val.s.toList=y.val.s.toList))):=by
  rw[← veq_all]
  obtain⟨k,v⟩:=x
  obtain⟨k',v'⟩:=y
  by_cases h1:k=k'
  ·by_cases h2:v=v'<;>simp[h1,h2]
  ·have h3:¬k.toList=k'.toList:=fun h=>h1 (Dct.toList_inj h)
   simp[h1,h3]
 rw[e] at hb
 subst hb
 unfold prA prC at hx hy
 unfold execOp
 simp only[ho,hx,hy]
 go_simp
 by_cases h0:x.key.toList=y.key.toList<;>by_cases h1:x.val.k=y.val.k<;>by_cases h2:x.val.n=y.val.n<;>by_cases h3:(x.val.f:Int)=(y.val.f:Int)<;>by_cases h4:x.val.s.toList=y.val.s.toList<;>simp[h0,h1,h2,h3,h4]
theorem same_ext{a b:List Dct.Pr}{n:Nat}(ha:a.length=n)(hb:b.length=n):(∀i x y,i<n→a[i]?=some x→b[i]?=some y→¬x=y→decide (a=b)=false)∧((∀i,i<n→a[i]?=b[i]?)→decide (a=b)=true):=by
 refine⟨fun i x y hi hx hy hne=>decide_eq_false fun h=>?_,fun h=>decide_eq_true (List.ext_getElem? fun i=>?_)⟩
 ·subst h
  rw[hx] at hy
  injection hy with hy
  exact hne hy
 ·by_cases hi:i<n
  ·exact h i hi
  ·rw[List.getElem?_eq_none (by omega),List.getElem?_eq_none (by omega)]
theorem same_any(A B:Option Addr)(c n d m:Nat)(a b:List Dct.Pr)(w:World)(hs:Sl w A n c a)(ht:Sl w B m d b):
  Calls Try.prog 24 #[.slice A n c,.slice B m d] w (IsB (decide (a=b)) w):=by
 have HK:=zH (Kn.start w)
 by_cases hnm:n=m
 case neg=>
  have hd:decide (a=b)=false:=decide_eq_false fun h=>hnm (by rw[← hs.len,← ht.len,h])
  rw[hd]
  have hnm2:((n:Int) != (m:Int))=true:=by simp;omega
  clear hs ht hd
  go_enter Try.func24,Try.ntmps24
  go_wp2_with fail
  go_ret
  exact⟨rfl,HK.out.b⟩
 case pos=>
 subst hnm
 obtain⟨hno,hyes⟩:=same_ext hs.len ht.len
 have HNo:=zH hno
 have HYes:=zH hyes
 have HS:=zH hs
 have HT:=zH ht
 have HG:Hid (∀k,k<n→(∃x,a[k]?=some x)∧∃y,b[k]?=some y):=zH fun k hk=>⟨Lay.get_of (l:=a) (k:=k) (by rw[hs.len];exact hk),Lay.get_of (l:=b) (k:=k) (by rw[ht.len];exact hk)⟩
 have hn63:n<9223372036854775807:=Nat.lt_of_le_of_lt hs.big (by decide)
 clear hs ht hno hyes
 generalize decide (a=b)=r at *
 have hnm2:((n:Int) != (n:Int))=false:=by simp
 go_enter Try.func24,Try.ntmps24
 go_wp2_with fail
 go_loopw [5] (fun vi wr=>∃k:Nat,k≤n∧vi=.int .i64 k∧Hid (∀i,i<k→a[i]?=b[i]?)∧Hid (Kn w.heap.size w wr [] [])) (fun vi _=>n-(intOf vi).toNat)
 case atStart=>exact⟨0,Nat.zero_le _,rfl,zH (fun i hi=>by omega),HK⟩
 case round=>
  clear HK
  obtain⟨k,hk,rfl,HE,HK⟩:=hrel
  have hk1:(0:Int)≤(k:Int):=by omega
  by_cases hlt:k<n
  ·have hk2:(k:Int)<(n:Int):=by omega
   have hk3:k<9223372036854775807:=by omega
   obtain⟨⟨x,hx⟩,⟨y,hy⟩⟩:=HG.out k hlt
   obtain⟨b1,o1,rfl,hat1⟩:=HS.out.at (Nat.lt_of_le_of_lt (Nat.zero_le _) hlt)
   obtain⟨b2,o2,rfl,hat2⟩:=HT.out.at (Nat.lt_of_le_of_lt (Nat.zero_le _) hlt)
   have HX:=zH (fun W hW=>hat1 W hW k x hx)
   have HY:=zH (fun W hW=>hat2 W hW k y hy)
   have HNx:=zH (HNo.out k x y hlt hx hy)
   have HEx:Hid (a[k]?=some x∧b[k]?=some y):=zH ⟨hx,hy⟩
   clear hat1 hat2 hx hy HNo HG
   go_wp2_with fail
   by_cases he:x=y
   ·have hb:(!decide (x=y))=false:=by rw[decide_eq_true he];rfl
    refine wp_region_held_drew (S:=(fun W=>Hid (Kn w.heap.size w W [] []))) (by kernel_rfl) ?_ (fun hHeld=>?_)
    ·(try dsimp only);exact zH HK.out.drew
    refine wpAnyH_take (i:=0) (oi:=⟨some 17,_,_,_,_,_⟩) (v:=?_) rfl (by kernel_rfl) (by kernel_rfl) (by kernel_rfl) (fun _ _ _ h=>h) (Or.inl ⟨by rfl,?_⟩) (by assumption) ?_
    rotate_left
    ·(intro w hSw;(try dsimp only at hSw);go_simp;try with_reducible rfl)
    try simp only[Act.put,List.setIfInBounds_toArray,List.set_cons_zero,List.set_cons_succ]
    refine wpAnyH_take (i:=1) (oi:=⟨some 18,_,_,_,_,_⟩) (v:=?_) rfl (by kernel_rfl) (by kernel_rfl) (by kernel_rfl) (fun _ _ _ h=>h) (Or.inl ⟨by rfl,?_⟩) (by assumption) ?_
    rotate_left
    ·(intro w hSw;(try dsimp only at hSw);go_simp;try with_reducible rfl)
    try simp only[Act.put,List.setIfInBounds_toArray,List.set_cons_zero,List.set_cons_succ]
    refine wpAnyH_take (i:=2) (oi:=⟨some 19,_,_,_,_,_⟩) (v:=?_) rfl (by kernel_rfl) (by kernel_rfl) (by kernel_rfl) (fun _ _ _ h=>h) (Or.inl ⟨by rfl,?_⟩) (by assumption) ?_
    rotate_left
    ·(intro w hSw;refine Eq.trans (exec_ix (i:=k) _ _ (by rfl) (by rfl) (by rfl) hlt) ?_;with_reducible rfl)
    try simp only[Act.put,List.setIfInBounds_toArray,List.set_cons_zero,List.set_cons_succ]
    refine wpAnyH_take (i:=3) (oi:=⟨some 20,_,_,_,_,_⟩) (v:=?_) rfl (by kernel_rfl) (by kernel_rfl) (by kernel_rfl) (fun _ _ _ h=>h) (Or.inl ⟨by rfl,?_⟩) (by assumption) ?_
    rotate_left
    ·(intro w hSw;refine Eq.trans (exec_lpr (x:=x) (off:=o1+k*5) _ (by rfl) (by rfl) (HX.out _ hSw.out.b)) ?_;with_reducible rfl)
    try simp only[Act.put,List.setIfInBounds_toArray,List.set_cons_zero,List.set_cons_succ]
    refine wpAnyH_take (i:=4) (oi:=⟨some 21,_,_,_,_,_⟩) (v:=?_) rfl (by kernel_rfl) (by kernel_rfl) (by kernel_rfl) (fun _ _ _ h=>h) (Or.inl ⟨by rfl,?_⟩) (by assumption) ?_
    rotate_left
    ·(intro w hSw;(try dsimp only at hSw);go_simp;try with_reducible rfl)
    try simp only[Act.put,List.setIfInBounds_toArray,List.set_cons_zero,List.set_cons_succ]
    refine wpAnyH_take (i:=5) (oi:=⟨some 22,_,_,_,_,_⟩) (v:=?_) rfl (by kernel_rfl) (by kernel_rfl) (by kernel_rfl) (fun _ _ _ h=>h) (Or.inl ⟨by rfl,?_⟩) (by assumption) ?_
    rotate_left
    ·(intro w hSw;(try dsimp only at hSw);go_simp;try with_reducible rfl)
    try simp only[Act.put,List.setIfInBounds_toArray,List.set_cons_zero,List.set_cons_succ]
    refine wpAnyH_take (i:=6) (oi:=⟨some 23,_,_,_,_,_⟩) (v:=?_) rfl (by kernel_rfl) (by kernel_rfl) (by kernel_rfl) (fun _ _ _ h=>h) (Or.inl ⟨by rfl,?_⟩) (by assumption) ?_
    rotate_left
    ·(intro w hSw;refine Eq.trans (exec_ix (i:=k) _ _ (by rfl) (by rfl) (by rfl) hlt) ?_;with_reducible rfl)
    try simp only[Act.put,List.setIfInBounds_toArray,List.set_cons_zero,List.set_cons_succ]
    refine wpAnyH_take (i:=7) (oi:=⟨some 24,_,_,_,_,_⟩) (v:=?_) rfl (by kernel_rfl) (by kernel_rfl) (by kernel_rfl) (fun _ _ _ h=>h) (Or.inl ⟨by rfl,?_⟩) (by assumption) ?_
    rotate_left
    ·(intro w hSw;refine Eq.trans (exec_lpr (x:=y) (off:=o2+k*5) _ (by rfl) (by rfl) (HY.out _ hSw.out.b)) ?_;with_reducible rfl)
    try simp only[Act.put,List.setIfInBounds_toArray,List.set_cons_zero,List.set_cons_succ]
    refine wpAnyH_take (i:=8) (oi:=⟨some 25,_,_,_,_,_⟩) (v:=?_) rfl (by kernel_rfl) (by kernel_rfl) (by kernel_rfl) (fun _ _ _ h=>h) (Or.inl ⟨by rfl,?_⟩) (by assumption) ?_
    rotate_left
    ·(intro w hSw;refine Eq.trans (exec_pne (x:=x) (y:=y) _ _ (by rfl) (by rfl) (by rfl) hb) ?_;with_reducible rfl)
    try simp only[Act.put,List.setIfInBounds_toArray,List.set_cons_zero,List.set_cons_succ]
    refine wpAnyH_done (by kernel_rfl) ?_ _
    go_wp2_with (first|refine wpList_of_exec (by rfl) (exec_add1 (j:=k) _ (by rfl) (by rfl) hk3) ?_)
    exact⟨⟨k+1,hlt,rfl,zH (fun i hi=>by
     by_cases hik:i=k
     ·subst hik;rw[HEx.out.1,HEx.out.2,he]
     ·exact HE.out i (by omega)),hHeld⟩,by simp[intOf];omega⟩
   ·have hb:(!decide (x=y))=true:=by rw[decide_eq_false he];rfl
    have HR:=zH (HNx.out he)
    refine wp_region_held_drew (S:=(fun W=>Hid (Kn w.heap.size w W [] []))) (by kernel_rfl) ?_ (fun hHeld=>?_)
    ·(try dsimp only);exact zH HK.out.drew
    refine wpAnyH_take (i:=0) (oi:=⟨some 17,_,_,_,_,_⟩) (v:=?_) rfl (by kernel_rfl) (by kernel_rfl) (by kernel_rfl) (fun _ _ _ h=>h) (Or.inl ⟨by rfl,?_⟩) (by assumption) ?_
    rotate_left
    ·(intro w hSw;(try dsimp only at hSw);go_simp;try with_reducible rfl)
    try simp only[Act.put,List.setIfInBounds_toArray,List.set_cons_zero,List.set_cons_succ]
    refine wpAnyH_take (i:=1) (oi:=⟨some 18,_,_,_,_,_⟩) (v:=?_) rfl (by kernel_rfl) (by kernel_rfl) (by kernel_rfl) (fun _ _ _ h=>h) (Or.inl ⟨by rfl,?_⟩) (by assumption) ?_
    rotate_left
    ·(intro w hSw;(try dsimp only at hSw);go_simp;try with_reducible rfl)
    try simp only[Act.put,List.setIfInBounds_toArray,List.set_cons_zero,List.set_cons_succ]
    refine wpAnyH_take (i:=2) (oi:=⟨some 19,_,_,_,_,_⟩) (v:=?_) rfl (by kernel_rfl) (by kernel_rfl) (by kernel_rfl) (fun _ _ _ h=>h) (Or.inl ⟨by rfl,?_⟩) (by assumption) ?_
    rotate_left
    ·(intro w hSw;refine Eq.trans (exec_ix (i:=k) _ _ (by rfl) (by rfl) (by rfl) hlt) ?_;with_reducible rfl)
    try simp only[Act.put,List.setIfInBounds_toArray,List.set_cons_zero,List.set_cons_succ]
    refine wpAnyH_take (i:=3) (oi:=⟨some 20,_,_,_,_,_⟩) (v:=?_) rfl (by kernel_rfl) (by kernel_rfl) (by kernel_rfl) (fun _ _ _ h=>h) (Or.inl ⟨by rfl,?_⟩) (by assumption) ?_
    rotate_left
    ·(intro w hSw;refine Eq.trans (exec_lpr (x:=x) (off:=o1+k*5) _ (by rfl) (by rfl) (HX.out _ hSw.out.b)) ?_;with_reducible rfl)
    try simp only[Act.put,List.setIfInBounds_toArray,List.set_cons_zero,List.set_cons_succ]
    refine wpAnyH_take (i:=4) (oi:=⟨some 21,_,_,_,_,_⟩) (v:=?_) rfl (by kernel_rfl) (by kernel_rfl) (by kernel_rfl) (fun _ _ _ h=>h) (Or.inl ⟨by rfl,?_⟩) (by assumption) ?_
    rotate_left
    ·(intro w hSw;(try dsimp only at hSw);go_simp;try with_reducible rfl)
    try simp only[Act.put,List.setIfInBounds_toArray,List.set_cons_zero,List.set_cons_succ]
    refine wpAnyH_take (i:=5) (oi:=⟨some 22,_,_,_,_,_⟩) (v:=?_) rfl (by kernel_rfl) (by kernel_rfl) (by kernel_rfl) (fun _ _ _ h=>h) (Or.inl ⟨by rfl,?_⟩) (by assumption) ?_
    rotate_left
    ·(intro w hSw;(try dsimp only at hSw);go_simp;try with_reducible rfl)
    try simp only[Act.put,List.setIfInBounds_toArray,List.set_cons_zero,List.set_cons_succ]
    refine wpAnyH_take (i:=6) (oi:=⟨some 23,_,_,_,_,_⟩) (v:=?_) rfl (by kernel_rfl) (by kernel_rfl) (by kernel_rfl) (fun _ _ _ h=>h) (Or.inl ⟨by rfl,?_⟩) (by assumption) ?_
    rotate_left
    ·(intro w hSw;refine Eq.trans (exec_ix (i:=k) _ _ (by rfl) (by rfl) (by rfl) hlt) ?_;with_reducible rfl)
    try simp only[Act.put,List.setIfInBounds_toArray,List.set_cons_zero,List.set_cons_succ]
    refine wpAnyH_take (i:=7) (oi:=⟨some 24,_,_,_,_,_⟩) (v:=?_) rfl (by kernel_rfl) (by kernel_rfl) (by kernel_rfl) (fun _ _ _ h=>h) (Or.inl ⟨by rfl,?_⟩) (by assumption) ?_
    rotate_left
    ·(intro w hSw;refine Eq.trans (exec_lpr (x:=y) (off:=o2+k*5) _ (by rfl) (by rfl) (HY.out _ hSw.out.b)) ?_;with_reducible rfl)
    try simp only[Act.put,List.setIfInBounds_toArray,List.set_cons_zero,List.set_cons_succ]
    refine wpAnyH_take (i:=8) (oi:=⟨some 25,_,_,_,_,_⟩) (v:=?_) rfl (by kernel_rfl) (by kernel_rfl) (by kernel_rfl) (fun _ _ _ h=>h) (Or.inl ⟨by rfl,?_⟩) (by assumption) ?_
    rotate_left
    ·(intro w hSw;refine Eq.trans (exec_pne (x:=x) (y:=y) _ _ (by rfl) (by rfl) (by rfl) hb) ?_;with_reducible rfl)
    try simp only[Act.put,List.setIfInBounds_toArray,List.set_cons_zero,List.set_cons_succ]
    refine wpAnyH_done (by kernel_rfl) ?_ _
    go_wp2_with fail
    go_ret
    exact⟨by rw[HR.out]<;>rfl,hHeld.out.b⟩
  ·obtain rfl:k=n:=by omega
   have HR:=zH (HYes.out HE.out)
   go_wp2_with fail
   go_ret
   exact⟨by rw[HR.out]<;>rfl,HK.out.b⟩
end
section
open Go.RowKit
theorem qsame_any(A B:Option Addr)(c n d m:Nat)(a b:List Val.V)(w:World)(hs:Sls vaLay vF w A n c a)(ht:Sls vaLay vF w B m d b):
  Calls Try.prog 25 #[.slice A n c,.slice B m d] w (IsB (decide (a=b)) w):=by
 have HK:=zH (Kn.start w)
 by_cases hnm:n=m
 case neg=>
  have hd:decide (a=b)=false:=decide_eq_false fun h=>hnm (by rw[← hs.len,← ht.len,h])
  rw[hd]
  have hnm2:((n:Int) != (m:Int))=true:=by simp;omega
  clear hs ht hd
  go_enter Try.func25,Try.ntmps25
  go_wp2_with fail
  go_ret
  exact⟨rfl,HK.out.b⟩
 case pos=>
 subst hnm
 obtain⟨hno,hyes⟩:=same_at hs.len ht.len
 have HNo:=zH hno
 have HYes:=zH hyes
 have HS:=zH hs
 have HT:=zH ht
 have HG:Hid (∀k,k<n→(∃x,a[k]?=some x)∧∃y,b[k]?=some y):=zH fun k hk=>⟨Lay.get_of (l:=a) (k:=k) (by rw[hs.len];exact hk),Lay.get_of (l:=b) (k:=k) (by rw[ht.len];exact hk)⟩
 have hn63:n<9223372036854775807:=by
  have h:n*40≤140737488355328:=hs.big
  omega
 clear hs ht hno hyes
 generalize decide (a=b)=r at *
 have hnm2:((n:Int) != (n:Int))=false:=by simp
 go_enter Try.func25,Try.ntmps25
 go_wp2_with fail
 go_loopw [5] (fun vi wr=>∃k:Nat,k≤n∧vi=.int .i64 k∧Hid (∀i,i<k→a[i]?=b[i]?)∧Hid (Kn w.heap.size w wr [] [])) (fun vi _=>n-(intOf vi).toNat)
 case atStart=>exact⟨0,Nat.zero_le _,rfl,zH (fun i hi=>by omega),HK⟩
 case round=>
  clear HK
  obtain⟨k,hk,rfl,HE,HK⟩:=hrel
  have hk1:(0:Int)≤(k:Int):=by omega
  by_cases hlt:k<n
  ·have hk2:(k:Int)<(n:Int):=by omega
   have hk3:k<9223372036854775807:=by omega
   obtain⟨⟨x,hx⟩,⟨y,hy⟩⟩:=HG.out k hlt
   obtain⟨b1,o1,rfl,hat1⟩:=HS.out.at (Nat.lt_of_le_of_lt (Nat.zero_le _) hlt)
   obtain⟨b2,o2,rfl,hat2⟩:=HT.out.at (Nat.lt_of_le_of_lt (Nat.zero_le _) hlt)
   have HX:=zH (fun W hW=>hat1 W hW k x hx)
   have HY:=zH (fun W hW=>hat2 W hW k y hy)
   have HNx:=zH (HNo.out k x y hlt hx hy)
   have HEx:Hid (a[k]?=some x∧b[k]?=some y):=zH ⟨hx,hy⟩
   clear hat1 hat2 hx hy HNo HG
   go_wp2_with fail
   by_cases he:x=y
   ·have hb:(!decide (x=y))=false:=by rw[decide_eq_true he];rfl
    refine wp_region_held_drew (S:=(fun W=>Hid (Kn w.heap.size w W [] []))) (by kernel_rfl) ?_ (fun hHeld=>?_)
    ·(try dsimp only);exact zH HK.out.drew
    refine wpAnyH_take (i:=0) (oi:=⟨some 17,_,_,_,_,_⟩) (v:=?_) rfl (by kernel_rfl) (by kernel_rfl) (by kernel_rfl) (fun _ _ _ h=>h) (Or.inl ⟨by rfl,?_⟩) (by assumption) ?_
    rotate_left
    ·(intro w hSw;(try dsimp only at hSw);go_simp;try with_reducible rfl)
    try simp only[Act.put,List.setIfInBounds_toArray,List.set_cons_zero,List.set_cons_succ]
    refine wpAnyH_take (i:=1) (oi:=⟨some 18,_,_,_,_,_⟩) (v:=?_) rfl (by kernel_rfl) (by kernel_rfl) (by kernel_rfl) (fun _ _ _ h=>h) (Or.inl ⟨by rfl,?_⟩) (by assumption) ?_
    rotate_left
    ·(intro w hSw;(try dsimp only at hSw);go_simp;try with_reducible rfl)
    try simp only[Act.put,List.setIfInBounds_toArray,List.set_cons_zero,List.set_cons_succ]
    refine wpAnyH_take (i:=2) (oi:=⟨some 19,_,_,_,_,_⟩) (v:=?_) rfl (by kernel_rfl) (by kernel_rfl) (by kernel_rfl) (fun _ _ _ h=>h) (Or.inl ⟨by rfl,?_⟩) (by assumption) ?_
    rotate_left
    ·(intro w hSw;refine Eq.trans (exec_slx vaLay (i:=k) _ _ (by rfl) (by rfl) (by rfl) hlt) ?_;with_reducible rfl)
    try simp only[Act.put,List.setIfInBounds_toArray,List.set_cons_zero,List.set_cons_succ]
    refine wpAnyH_take (i:=3) (oi:=⟨some 20,_,_,_,_,_⟩) (v:=?_) rfl (by kernel_rfl) (by kernel_rfl) (by kernel_rfl) (fun _ _ _ h=>h) (Or.inl ⟨by rfl,?_⟩) (by assumption) ?_
    rotate_left
    ·(intro w hSw;refine Eq.trans (exec_slv vaLay (x:=x) (off:=o1+k*4) _ (by rfl) (by rfl) Try.underlying26 (HX.out _ hSw.out.b)) ?_;with_reducible rfl)
    try simp only[Act.put,List.setIfInBounds_toArray,List.set_cons_zero,List.set_cons_succ]
    refine wpAnyH_take (i:=4) (oi:=⟨some 21,_,_,_,_,_⟩) (v:=?_) rfl (by kernel_rfl) (by kernel_rfl) (by kernel_rfl) (fun _ _ _ h=>h) (Or.inl ⟨by rfl,?_⟩) (by assumption) ?_
    rotate_left
    ·(intro w hSw;(try dsimp only at hSw);go_simp;try with_reducible rfl)
    try simp only[Act.put,List.setIfInBounds_toArray,List.set_cons_zero,List.set_cons_succ]
    refine wpAnyH_take (i:=5) (oi:=⟨some 22,_,_,_,_,_⟩) (v:=?_) rfl (by kernel_rfl) (by kernel_rfl) (by kernel_rfl) (fun _ _ _ h=>h) (Or.inl ⟨by rfl,?_⟩) (by assumption) ?_
    rotate_left
    ·(intro w hSw;(try dsimp only at hSw);go_simp;try with_reducible rfl)
    try simp only[Act.put,List.setIfInBounds_toArray,List.set_cons_zero,List.set_cons_succ]
    refine wpAnyH_take (i:=6) (oi:=⟨some 23,_,_,_,_,_⟩) (v:=?_) rfl (by kernel_rfl) (by kernel_rfl) (by kernel_rfl) (fun _ _ _ h=>h) (Or.inl ⟨by rfl,?_⟩) (by assumption) ?_
    rotate_left
    ·(intro w hSw;refine Eq.trans (exec_slx vaLay (i:=k) _ _ (by rfl) (by rfl) (by rfl) hlt) ?_;with_reducible rfl)
    try simp only[Act.put,List.setIfInBounds_toArray,List.set_cons_zero,List.set_cons_succ]
    refine wpAnyH_take (i:=7) (oi:=⟨some 24,_,_,_,_,_⟩) (v:=?_) rfl (by kernel_rfl) (by kernel_rfl) (by kernel_rfl) (fun _ _ _ h=>h) (Or.inl ⟨by rfl,?_⟩) (by assumption) ?_
    rotate_left
    ·(intro w hSw;refine Eq.trans (exec_slv vaLay (x:=y) (off:=o2+k*4) _ (by rfl) (by rfl) Try.underlying26 (HY.out _ hSw.out.b)) ?_;with_reducible rfl)
    try simp only[Act.put,List.setIfInBounds_toArray,List.set_cons_zero,List.set_cons_succ]
    refine wpAnyH_take (i:=8) (oi:=⟨some 25,_,_,_,_,_⟩) (v:=?_) rfl (by kernel_rfl) (by kernel_rfl) (by kernel_rfl) (fun _ _ _ h=>h) (Or.inl ⟨by rfl,?_⟩) (by assumption) ?_
    rotate_left
    ·(intro w hSw;refine Eq.trans (exec_vne (v:=x) (u:=y) _ _ (by rfl) (by rfl) (by rfl) hb) ?_;with_reducible rfl)
    try simp only[Act.put,List.setIfInBounds_toArray,List.set_cons_zero,List.set_cons_succ]
    refine wpAnyH_done (by kernel_rfl) ?_ _
    go_wp2_with (first|refine wpList_of_exec (by rfl) (exec_add1 (j:=k) _ (by rfl) (by rfl) hk3) ?_)
    exact⟨⟨k+1,hlt,rfl,zH (fun i hi=>by
     by_cases hik:i=k
     ·subst hik;rw[HEx.out.1,HEx.out.2,he]
     ·exact HE.out i (by omega)),hHeld⟩,by simp[intOf];omega⟩
   ·have hb:(!decide (x=y))=true:=by rw[decide_eq_false he];rfl
    have HR:=zH (HNx.out he)
    refine wp_region_held_drew (S:=(fun W=>Hid (Kn w.heap.size w W [] []))) (by kernel_rfl) ?_ (fun hHeld=>?_)
    ·(try dsimp only);exact zH HK.out.drew
    refine wpAnyH_take (i:=0) (oi:=⟨some 17,_,_,_,_,_⟩) (v:=?_) rfl (by kernel_rfl) (by kernel_rfl) (by kernel_rfl) (fun _ _ _ h=>h) (Or.inl ⟨by rfl,?_⟩) (by assumption) ?_
    rotate_left
    ·(intro w hSw;(try dsimp only at hSw);go_simp;try with_reducible rfl)
    try simp only[Act.put,List.setIfInBounds_toArray,List.set_cons_zero,List.set_cons_succ]
    refine wpAnyH_take (i:=1) (oi:=⟨some 18,_,_,_,_,_⟩) (v:=?_) rfl (by kernel_rfl) (by kernel_rfl) (by kernel_rfl) (fun _ _ _ h=>h) (Or.inl ⟨by rfl,?_⟩) (by assumption) ?_
    rotate_left
    ·(intro w hSw;(try dsimp only at hSw);go_simp;try with_reducible rfl)
    try simp only[Act.put,List.setIfInBounds_toArray,List.set_cons_zero,List.set_cons_succ]
    refine wpAnyH_take (i:=2) (oi:=⟨some 19,_,_,_,_,_⟩) (v:=?_) rfl (by kernel_rfl) (by kernel_rfl) (by kernel_rfl) (fun _ _ _ h=>h) (Or.inl ⟨by rfl,?_⟩) (by assumption) ?_
    rotate_left
    ·(intro w hSw;refine Eq.trans (exec_slx vaLay (i:=k) _ _ (by rfl) (by rfl) (by rfl) hlt) ?_;with_reducible rfl)
    try simp only[Act.put,List.setIfInBounds_toArray,List.set_cons_zero,List.set_cons_succ]
    refine wpAnyH_take (i:=3) (oi:=⟨some 20,_,_,_,_,_⟩) (v:=?_) rfl (by kernel_rfl) (by kernel_rfl) (by kernel_rfl) (fun _ _ _ h=>h) (Or.inl ⟨by rfl,?_⟩) (by assumption) ?_
    rotate_left
    ·(intro w hSw;refine Eq.trans (exec_slv vaLay (x:=x) (off:=o1+k*4) _ (by rfl) (by rfl) Try.underlying26 (HX.out _ hSw.out.b)) ?_;with_reducible rfl)
    try simp only[Act.put,List.setIfInBounds_toArray,List.set_cons_zero,List.set_cons_succ]
    refine wpAnyH_take (i:=4) (oi:=⟨some 21,_,_,_,_,_⟩) (v:=?_) rfl (by kernel_rfl) (by kernel_rfl) (by kernel_rfl) (fun _ _ _ h=>h) (Or.inl ⟨by rfl,?_⟩) (by assumption) ?_
    rotate_left
    ·(intro w hSw;(try dsimp only at hSw);go_simp;try with_reducible rfl)
    try simp only[Act.put,List.setIfInBounds_toArray,List.set_cons_zero,List.set_cons_succ]
    refine wpAnyH_take (i:=5) (oi:=⟨some 22,_,_,_,_,_⟩) (v:=?_) rfl (by kernel_rfl) (by kernel_rfl) (by kernel_rfl) (fun _ _ _ h=>h) (Or.inl ⟨by rfl,?_⟩) (by assumption) ?_
    rotate_left
    ·(intro w hSw;(try dsimp only at hSw);go_simp;try with_reducible rfl)
    try simp only[Act.put,List.setIfInBounds_toArray,List.set_cons_zero,List.set_cons_succ]
    refine wpAnyH_take (i:=6) (oi:=⟨some 23,_,_,_,_,_⟩) (v:=?_) rfl (by kernel_rfl) (by kernel_rfl) (by kernel_rfl) (fun _ _ _ h=>h) (Or.inl ⟨by rfl,?_⟩) (by assumption) ?_
    rotate_left
    ·(intro w hSw;refine Eq.trans (exec_slx vaLay (i:=k) _ _ (by rfl) (by rfl) (by rfl) hlt) ?_;with_reducible rfl)
    try simp only[Act.put,List.setIfInBounds_toArray,List.set_cons_zero,List.set_cons_succ]
    refine wpAnyH_take (i:=7) (oi:=⟨some 24,_,_,_,_,_⟩) (v:=?_) rfl (by kernel_rfl) (by kernel_rfl) (by kernel_rfl) (fun _ _ _ h=>h) (Or.inl ⟨by rfl,?_⟩) (by assumption) ?_
    rotate_left
    ·(intro w hSw;refine Eq.trans (exec_slv vaLay (x:=y) (off:=o2+k*4) _ (by rfl) (by rfl) Try.underlying26 (HY.out _ hSw.out.b)) ?_;with_reducible rfl)
    try simp only[Act.put,List.setIfInBounds_toArray,List.set_cons_zero,List.set_cons_succ]
    refine wpAnyH_take (i:=8) (oi:=⟨some 25,_,_,_,_,_⟩) (v:=?_) rfl (by kernel_rfl) (by kernel_rfl) (by kernel_rfl) (fun _ _ _ h=>h) (Or.inl ⟨by rfl,?_⟩) (by assumption) ?_
    rotate_left
    ·(intro w hSw;refine Eq.trans (exec_vne (v:=x) (u:=y) _ _ (by rfl) (by rfl) (by rfl) hb) ?_;with_reducible rfl)
    try simp only[Act.put,List.setIfInBounds_toArray,List.set_cons_zero,List.set_cons_succ]
    refine wpAnyH_done (by kernel_rfl) ?_ _
    go_wp2_with fail
    go_ret
    exact⟨by rw[HR.out]<;>rfl,hHeld.out.b⟩
  ·obtain rfl:k=n:=by omega
   have HR:=zH (HYes.out HE.out)
   go_wp2_with fail
   go_ret
   exact⟨by rw[HR.out]<;>rfl,HK.out.b⟩
end
section
open Go.RowKit
theorem lsame_any(A B:Option Addr)(c n d m:Nat)(a b:List Rf)(w:World)(hs:Sls rfLay rF w A n c a)(ht:Sls rfLay rF w B m d b):
  Calls Try.prog 26 #[.slice A n c,.slice B m d] w (IsB (decide (a=b)) w):=by
 have HK:=zH (Kn.start w)
 by_cases hnm:n=m
 case neg=>
  have hd:decide (a=b)=false:=decide_eq_false fun h=>hnm (by rw[← hs.len,← ht.len,h])
  rw[hd]
  have hnm2:((n:Int) != (m:Int))=true:=by simp;omega
  clear hs ht hd
  go_enter Try.func26,Try.ntmps26
  go_wp2_with fail
  go_ret
  exact⟨rfl,HK.out.b⟩
 case pos=>
 subst hnm
 obtain⟨hno,hyes⟩:=same_at hs.len ht.len
 have HNo:=zH hno
 have HYes:=zH hyes
 have HS:=zH hs
 have HT:=zH ht
 have HG:Hid (∀k,k<n→(∃x,a[k]?=some x)∧∃y,b[k]?=some y):=zH fun k hk=>⟨Lay.get_of (l:=a) (k:=k) (by rw[hs.len];exact hk),Lay.get_of (l:=b) (k:=k) (by rw[ht.len];exact hk)⟩
 have hn63:n<9223372036854775807:=by
  have h:n*24≤140737488355328:=hs.big
  omega
 clear hs ht hno hyes
 generalize decide (a=b)=r at *
 have hnm2:((n:Int) != (n:Int))=false:=by simp
 go_enter Try.func26,Try.ntmps26
 go_wp2_with fail
 go_loopw [5] (fun vi wr=>∃k:Nat,k≤n∧vi=.int .i64 k∧Hid (∀i,i<k→a[i]?=b[i]?)∧Hid (Kn w.heap.size w wr [] [])) (fun vi _=>n-(intOf vi).toNat)
 case atStart=>exact⟨0,Nat.zero_le _,rfl,zH (fun i hi=>by omega),HK⟩
 case round=>
  clear HK
  obtain⟨k,hk,rfl,HE,HK⟩:=hrel
  have hk1:(0:Int)≤(k:Int):=by omega
  by_cases hlt:k<n
  ·have hk2:(k:Int)<(n:Int):=by omega
   have hk3:k<9223372036854775807:=by omega
   obtain⟨⟨x,hx⟩,⟨y,hy⟩⟩:=HG.out k hlt
   obtain⟨b1,o1,rfl,hat1⟩:=HS.out.at (Nat.lt_of_le_of_lt (Nat.zero_le _) hlt)
   obtain⟨b2,o2,rfl,hat2⟩:=HT.out.at (Nat.lt_of_le_of_lt (Nat.zero_le _) hlt)
   have HX:=zH (fun W hW=>hat1 W hW k x hx)
   have HY:=zH (fun W hW=>hat2 W hW k y hy)
   have HNx:=zH (HNo.out k x y hlt hx hy)
   have HEx:Hid (a[k]?=some x∧b[k]?=some y):=zH ⟨hx,hy⟩
   clear hat1 hat2 hx hy HNo HG
   go_wp2_with fail
   by_cases he:x=y
   ·have hb:(!decide (x=y))=false:=by rw[decide_eq_true he];rfl
    refine wp_region_held_drew (S:=(fun W=>Hid (Kn w.heap.size w W [] []))) (by kernel_rfl) ?_ (fun hHeld=>?_)
    ·(try dsimp only);exact zH HK.out.drew
    refine wpAnyH_take (i:=0) (oi:=⟨some 17,_,_,_,_,_⟩) (v:=?_) rfl (by kernel_rfl) (by kernel_rfl) (by kernel_rfl) (fun _ _ _ h=>h) (Or.inl ⟨by rfl,?_⟩) (by assumption) ?_
    rotate_left
    ·(intro w hSw;(try dsimp only at hSw);go_simp;try with_reducible rfl)
    try simp only[Act.put,List.setIfInBounds_toArray,List.set_cons_zero,List.set_cons_succ]
    refine wpAnyH_take (i:=1) (oi:=⟨some 18,_,_,_,_,_⟩) (v:=?_) rfl (by kernel_rfl) (by kernel_rfl) (by kernel_rfl) (fun _ _ _ h=>h) (Or.inl ⟨by rfl,?_⟩) (by assumption) ?_
    rotate_left
    ·(intro w hSw;(try dsimp only at hSw);go_simp;try with_reducible rfl)
    try simp only[Act.put,List.setIfInBounds_toArray,List.set_cons_zero,List.set_cons_succ]
    refine wpAnyH_take (i:=2) (oi:=⟨some 19,_,_,_,_,_⟩) (v:=?_) rfl (by kernel_rfl) (by kernel_rfl) (by kernel_rfl) (fun _ _ _ h=>h) (Or.inl ⟨by rfl,?_⟩) (by assumption) ?_
    rotate_left
    ·(intro w hSw;refine Eq.trans (exec_ixr (i:=k) _ _ (by rfl) (by rfl) (by rfl) hlt) ?_;with_reducible rfl)
    try simp only[Act.put,List.setIfInBounds_toArray,List.set_cons_zero,List.set_cons_succ]
    refine wpAnyH_take (i:=3) (oi:=⟨some 20,_,_,_,_,_⟩) (v:=?_) rfl (by kernel_rfl) (by kernel_rfl) (by kernel_rfl) (fun _ _ _ h=>h) (Or.inl ⟨by rfl,?_⟩) (by assumption) ?_
    rotate_left
    ·(intro w hSw;refine Eq.trans (exec_lr (x:=x) (off:=o1+k*3) _ (by rfl) (by rfl) (HX.out _ hSw.out.b)) ?_;with_reducible rfl)
    try simp only[Act.put,List.setIfInBounds_toArray,List.set_cons_zero,List.set_cons_succ]
    refine wpAnyH_take (i:=4) (oi:=⟨some 21,_,_,_,_,_⟩) (v:=?_) rfl (by kernel_rfl) (by kernel_rfl) (by kernel_rfl) (fun _ _ _ h=>h) (Or.inl ⟨by rfl,?_⟩) (by assumption) ?_
    rotate_left
    ·(intro w hSw;(try dsimp only at hSw);go_simp;try with_reducible rfl)
    try simp only[Act.put,List.setIfInBounds_toArray,List.set_cons_zero,List.set_cons_succ]
    refine wpAnyH_take (i:=5) (oi:=⟨some 22,_,_,_,_,_⟩) (v:=?_) rfl (by kernel_rfl) (by kernel_rfl) (by kernel_rfl) (fun _ _ _ h=>h) (Or.inl ⟨by rfl,?_⟩) (by assumption) ?_
    rotate_left
    ·(intro w hSw;(try dsimp only at hSw);go_simp;try with_reducible rfl)
    try simp only[Act.put,List.setIfInBounds_toArray,List.set_cons_zero,List.set_cons_succ]
    refine wpAnyH_take (i:=6) (oi:=⟨some 23,_,_,_,_,_⟩) (v:=?_) rfl (by kernel_rfl) (by kernel_rfl) (by kernel_rfl) (fun _ _ _ h=>h) (Or.inl ⟨by rfl,?_⟩) (by assumption) ?_
    rotate_left
    ·(intro w hSw;refine Eq.trans (exec_ixr (i:=k) _ _ (by rfl) (by rfl) (by rfl) hlt) ?_;with_reducible rfl)
    try simp only[Act.put,List.setIfInBounds_toArray,List.set_cons_zero,List.set_cons_succ]
    refine wpAnyH_take (i:=7) (oi:=⟨some 24,_,_,_,_,_⟩) (v:=?_) rfl (by kernel_rfl) (by kernel_rfl) (by kernel_rfl) (fun _ _ _ h=>h) (Or.inl ⟨by rfl,?_⟩) (by assumption) ?_
    rotate_left
    ·(intro w hSw;refine Eq.trans (exec_lr (x:=y) (off:=o2+k*3) _ (by rfl) (by rfl) (HY.out _ hSw.out.b)) ?_;with_reducible rfl)
    try simp only[Act.put,List.setIfInBounds_toArray,List.set_cons_zero,List.set_cons_succ]
    refine wpAnyH_take (i:=8) (oi:=⟨some 25,_,_,_,_,_⟩) (v:=?_) rfl (by kernel_rfl) (by kernel_rfl) (by kernel_rfl) (fun _ _ _ h=>h) (Or.inl ⟨by rfl,?_⟩) (by assumption) ?_
    rotate_left
    ·(intro w hSw;refine Eq.trans (exec_rne (v:=x) (u:=y) _ _ (by rfl) (by rfl) (by rfl) hb) ?_;with_reducible rfl)
    try simp only[Act.put,List.setIfInBounds_toArray,List.set_cons_zero,List.set_cons_succ]
    refine wpAnyH_done (by kernel_rfl) ?_ _
    go_wp2_with (first|refine wpList_of_exec (by rfl) (exec_add1 (j:=k) _ (by rfl) (by rfl) hk3) ?_)
    exact⟨⟨k+1,hlt,rfl,zH (fun i hi=>by
     by_cases hik:i=k
     ·subst hik;rw[HEx.out.1,HEx.out.2,he]
     ·exact HE.out i (by omega)),hHeld⟩,by simp[intOf];omega⟩
   ·have hb:(!decide (x=y))=true:=by rw[decide_eq_false he];rfl
    have HR:=zH (HNx.out he)
    refine wp_region_held_drew (S:=(fun W=>Hid (Kn w.heap.size w W [] []))) (by kernel_rfl) ?_ (fun hHeld=>?_)
    ·(try dsimp only);exact zH HK.out.drew
    refine wpAnyH_take (i:=0) (oi:=⟨some 17,_,_,_,_,_⟩) (v:=?_) rfl (by kernel_rfl) (by kernel_rfl) (by kernel_rfl) (fun _ _ _ h=>h) (Or.inl ⟨by rfl,?_⟩) (by assumption) ?_
    rotate_left
    ·(intro w hSw;(try dsimp only at hSw);go_simp;try with_reducible rfl)
    try simp only[Act.put,List.setIfInBounds_toArray,List.set_cons_zero,List.set_cons_succ]
    refine wpAnyH_take (i:=1) (oi:=⟨some 18,_,_,_,_,_⟩) (v:=?_) rfl (by kernel_rfl) (by kernel_rfl) (by kernel_rfl) (fun _ _ _ h=>h) (Or.inl ⟨by rfl,?_⟩) (by assumption) ?_
    rotate_left
    ·(intro w hSw;(try dsimp only at hSw);go_simp;try with_reducible rfl)
    try simp only[Act.put,List.setIfInBounds_toArray,List.set_cons_zero,List.set_cons_succ]
    refine wpAnyH_take (i:=2) (oi:=⟨some 19,_,_,_,_,_⟩) (v:=?_) rfl (by kernel_rfl) (by kernel_rfl) (by kernel_rfl) (fun _ _ _ h=>h) (Or.inl ⟨by rfl,?_⟩) (by assumption) ?_
    rotate_left
    ·(intro w hSw;refine Eq.trans (exec_ixr (i:=k) _ _ (by rfl) (by rfl) (by rfl) hlt) ?_;with_reducible rfl)
    try simp only[Act.put,List.setIfInBounds_toArray,List.set_cons_zero,List.set_cons_succ]
    refine wpAnyH_take (i:=3) (oi:=⟨some 20,_,_,_,_,_⟩) (v:=?_) rfl (by kernel_rfl) (by kernel_rfl) (by kernel_rfl) (fun _ _ _ h=>h) (Or.inl ⟨by rfl,?_⟩) (by assumption) ?_
    rotate_left
    ·(intro w hSw;refine Eq.trans (exec_lr (x:=x) (off:=o1+k*3) _ (by rfl) (by rfl) (HX.out _ hSw.out.b)) ?_;with_reducible rfl)
    try simp only[Act.put,List.setIfInBounds_toArray,List.set_cons_zero,List.set_cons_succ]
    refine wpAnyH_take (i:=4) (oi:=⟨some 21,_,_,_,_,_⟩) (v:=?_) rfl (by kernel_rfl) (by kernel_rfl) (by kernel_rfl) (fun _ _ _ h=>h) (Or.inl ⟨by rfl,?_⟩) (by assumption) ?_
    rotate_left
    ·(intro w hSw;(try dsimp only at hSw);go_simp;try with_reducible rfl)
    try simp only[Act.put,List.setIfInBounds_toArray,List.set_cons_zero,List.set_cons_succ]
    refine wpAnyH_take (i:=5) (oi:=⟨some 22,_,_,_,_,_⟩) (v:=?_) rfl (by kernel_rfl) (by kernel_rfl) (by kernel_rfl) (fun _ _ _ h=>h) (Or.inl ⟨by rfl,?_⟩) (by assumption) ?_
    rotate_left
    ·(intro w hSw;(try dsimp only at hSw);go_simp;try with_reducible rfl)
    try simp only[Act.put,List.setIfInBounds_toArray,List.set_cons_zero,List.set_cons_succ]
    refine wpAnyH_take (i:=6) (oi:=⟨some 23,_,_,_,_,_⟩) (v:=?_) rfl (by kernel_rfl) (by kernel_rfl) (by kernel_rfl) (fun _ _ _ h=>h) (Or.inl ⟨by rfl,?_⟩) (by assumption) ?_
    rotate_left
    ·(intro w hSw;refine Eq.trans (exec_ixr (i:=k) _ _ (by rfl) (by rfl) (by rfl) hlt) ?_;with_reducible rfl)
    try simp only[Act.put,List.setIfInBounds_toArray,List.set_cons_zero,List.set_cons_succ]
    refine wpAnyH_take (i:=7) (oi:=⟨some 24,_,_,_,_,_⟩) (v:=?_) rfl (by kernel_rfl) (by kernel_rfl) (by kernel_rfl) (fun _ _ _ h=>h) (Or.inl ⟨by rfl,?_⟩) (by assumption) ?_
    rotate_left
    ·(intro w hSw;refine Eq.trans (exec_lr (x:=y) (off:=o2+k*3) _ (by rfl) (by rfl) (HY.out _ hSw.out.b)) ?_;with_reducible rfl)
    try simp only[Act.put,List.setIfInBounds_toArray,List.set_cons_zero,List.set_cons_succ]
    refine wpAnyH_take (i:=8) (oi:=⟨some 25,_,_,_,_,_⟩) (v:=?_) rfl (by kernel_rfl) (by kernel_rfl) (by kernel_rfl) (fun _ _ _ h=>h) (Or.inl ⟨by rfl,?_⟩) (by assumption) ?_
    rotate_left
    ·(intro w hSw;refine Eq.trans (exec_rne (v:=x) (u:=y) _ _ (by rfl) (by rfl) (by rfl) hb) ?_;with_reducible rfl)
    try simp only[Act.put,List.setIfInBounds_toArray,List.set_cons_zero,List.set_cons_succ]
    refine wpAnyH_done (by kernel_rfl) ?_ _
    go_wp2_with fail
    go_ret
    exact⟨by rw[HR.out]<;>rfl,hHeld.out.b⟩
  ·obtain rfl:k=n:=by omega
   have HR:=zH (HYes.out HE.out)
   go_wp2_with fail
   go_ret
   exact⟨by rw[HR.out]<;>rfl,HK.out.b⟩
end
end Go.Proofs.Ytieoeendnccafaa
