/- What a session's end leaves, object by object: the rounds of a loop, pure; how what is told lies. No condition but those named. -/
import Derived.Test.YtieoeendnccafaaGreatMTK
import Derived.Test.YtieoeendnccafaaGreatMAL
import Derived.Test.YtieoeendnccafaaGreatMAA
import Derived.Test.YtieoeendnccafaaGreatMAJ
import Derived.Test.YtieoeendnccafaaGreatMAB
import Derived.Test.YtieoeendnccafaaGreatMAF
import Derived.Test.YtieoeendnccafaaGreatMAI
import Derived.Test.YtieoeendnccafaaGreatMAG
import Derived.Deep.CutBlock
import Derived.Deep.DeepCutAuto
import Derived.Lib.AppendZeros
import Derived.Deep.MidRow
set_option linter.unusedSimpArgs false
set_option linter.unusedVariables false
set_option maxRecDepth 100000
set_option maxHeartbeats 25600000
namespace Go.Proofs.YtieoeendnccafaaGreat
section
open Go.RowKit
theorem lright_any(A:Option Addr)(c n:Nat)(l:List Rf)(w:World)(hs:Sls rfLay rF w A n c l):
  Calls Tryz.prog 144 #[.slice A n c] w (IsB (decide (Lck.Right l)) w):=by
 obtain⟨hno,hyes⟩:=Lck.right_told hs.len
 have HNo:=zH hno
 have HYes:=zH hyes
 have HS:=zH hs
 have HC:=zH (fun x W=>cmr_any x W)
 have HAs:=zH (fun W A c n l q (h:Sls rfLay rF W A n c l)=>asked_any A c n l q W h)
 have HK:=zH (Kn.start w)
 have hn63:n<9223372036854775807:=by
  have h:n*24≤140737488355328:=hs.big
  omega
 have hnc:n≤c:=hs.cap
 clear hs hyes hno
 unfold IsB at *
 generalize decide (Lck.Right l)=r at *
 go_enter Tryz.func144,Tryz.ntmps144
 go_wp2_with fail
 go_loopw [7] (fun vi wr=>∃k:Nat,k≤n∧vi=.int .i64 k∧Hid (∀(i:Nat) x,i<k→l[i]?=some x→Lck.ok x∧Lck.asked (l.take i) x.c=false)∧Hid (Kn w.heap.size w wr [] [])) (fun vi _=>n-(intOf vi).toNat)
 case atStart=>exact⟨0,Nat.zero_le _,rfl,zH (fun i v hi=>by omega),HK⟩
 case round=>
  clear HK
  obtain⟨k,hk,rfl,HGo,HK⟩:=hrel
  have hk1:(0:Int)≤(k:Int):=by omega
  by_cases hlt:k<n
  ·have hk2:(k:Int)<(n:Int):=by omega
   have hk3:k<9223372036854775807:=by omega
   have hkc:k≤c:=by omega
   obtain⟨x,hx,_⟩:=HS.out.get hlt
   have HP:=zH (fun W (hW:Below w.heap.size w W)=>HAs.out W A c k (l.take k) x.c ((HS.out.later hW).take hk))
   obtain⟨b,o,rfl,hat⟩:=HS.out.at (Nat.lt_of_le_of_lt (Nat.zero_le _) hlt)
   have HX:=zH (fun W hW=>hat W hW k x hx)
   have HN:=zH (HNo.out k x hlt hx)
   have HGk:Hid (Lck.ok x∧Lck.asked (l.take k) x.c=false→∀(i:Nat) v,i<k+1→l[i]?=some v→Lck.ok v∧Lck.asked (l.take i) v.c=false):=zH fun h i v hi hv=>by
    by_cases hik:i=k
    ·subst hik;rw[hx] at hv;injection hv with hv;subst hv;exact h
    ·exact HGo.out i v (by omega) hv
   clear hat hx HNo HAs
   have HCx:=zH (fun W=>HC.out x W)
   clear HC
   by_cases hok:Lck.ok x
   case neg=>
    have HR:=zH (HN.out (fun h=>hok h.1))
    rw[decide_eq_false hok] at HCx
    clear hok HN HGk HP
    go_wp2_with (first|refine zX (exec_lr (x:=x) (off:=o+k*3) _ (by rfl) (by rfl) (HX.out _ HK.out.b)) ?_|(refine wpList_akr HK rfl rfl ?_;intro _ g2 HK';simp only[lcA,lnA] at HK';replace HK:=HK';clear HK')|(refine wpList_sr HK 0 rfl _ _ rfl rfl rfl rfl ?_;intro _ HK';simp only[List.set] at HK';replace HK:=HK';clear HK'))
    refine wp_region_held_drew (S:=(fun W=>Hid (Kn w.heap.size w W [(g2,35,#[.int .i64 x.c,.int .i64 x.e,.int .i64 x.r])] []))) (by kernel_rfl) ?_ (fun hHeld=>?_)
    ·(try dsimp only);exact zH HK.out.drew
    refine stk 0 12 rfl ?_ (fun w hSw=>kexec_lr hSw 0 _ (by rfl) (by rfl) (by rfl))
    refine srd1 1 (some 13) rfl (fun K hK=>?_)
    go_simp
    go_at_call 60
    refine(HCx.out _).mono ?_;rintro e w5 ⟨rfl,b5⟩;have hs:=zH (hHeld.out.call b5);clear b5
    refine hK.out _ _ hs (fun hHeld=>?_)
    clear hK K
    try simp only[ap1,ap2,ap3,ap4,ap5]
    refine stk 2 14 rfl ?_
    refine stk 3 15 rfl ?_
    refine stu 4 16 rfl ?_
    refine stu 5 17 rfl ?_
    refine stu 6 18 rfl ?_
    refine stu 7 19 rfl ?_
    refine stu 8 20 rfl ?_
    refine stu 9 21 rfl ?_
    refine stk 10 22 rfl ?_
    refine wpAnyH_done (by kernel_rfl) ?_ _
    go_wp2_with fail
    go_ret
    exact⟨by rw[HR.out]<;>rfl,hHeld.out.b⟩
   case pos=>
   rw[decide_eq_true hok] at HCx
   by_cases has:Lck.asked (l.take k) x.c=true
   ·have HR:=zH (HN.out (fun h=>by rw[has] at h;cases h.2))
    rw[has] at HP
    clear hok HN HGk has
    go_wp2_with (first|refine zX (exec_lr (x:=x) (off:=o+k*3) _ (by rfl) (by rfl) (HX.out _ HK.out.b)) ?_|(refine wpList_akr HK rfl rfl ?_;intro _ g2 HK';simp only[lcA,lnA] at HK';replace HK:=HK';clear HK')|(refine wpList_sr HK 0 rfl _ _ rfl rfl rfl rfl ?_;intro _ HK';simp only[List.set] at HK';replace HK:=HK';clear HK'))
    refine wp_region_held_drew (S:=(fun W=>Hid (Kn w.heap.size w W [(g2,35,#[.int .i64 x.c,.int .i64 x.e,.int .i64 x.r])] []))) (by kernel_rfl) ?_ (fun hHeld=>?_)
    ·(try dsimp only);exact zH HK.out.drew
    refine stk 0 12 rfl ?_ (fun w hSw=>kexec_lr hSw 0 _ (by rfl) (by rfl) (by rfl))
    refine srd1 1 (some 13) rfl (fun K hK=>?_)
    go_simp
    go_at_call 60
    refine(HCx.out _).mono ?_;rintro e w5 ⟨rfl,b5⟩;have hs:=zH (hHeld.out.call b5);clear b5
    refine hK.out _ _ hs (fun hHeld=>?_)
    clear hK K
    try simp only[ap1,ap2,ap3,ap4,ap5]
    refine stk 2 14 rfl ?_
    refine stk 3 15 rfl ?_
    refine stk 4 16 rfl ?_
    refine stk 5 17 rfl ?_
    refine stk 6 18 rfl ?_ (fun w hSw=>exec_srh (hi:=k) _ _ (by rfl) (by rfl) (by rfl) hkc)
    refine stk 7 19 rfl ?_
    refine stk 8 20 rfl ?_ (fun w hSw=>kexec_lc0 hSw 0 _ (by rfl) (by rfl) (by rfl))
    refine srd1 9 (some 21) rfl (fun K hK=>?_)
    go_simp
    go_at_call 209
    refine(HP.out _ hHeld.out.b).mono ?_;rintro e w5 ⟨rfl,b5⟩;have hs:=zH (hHeld.out.call b5);clear b5
    refine hK.out _ _ hs (fun hHeld=>?_)
    clear hK K
    try simp only[ap1,ap2,ap3,ap4,ap5]
    refine stk 10 22 rfl ?_
    refine wpAnyH_done (by kernel_rfl) ?_ _
    go_wp2_with fail
    go_ret
    exact⟨by rw[HR.out]<;>rfl,hHeld.out.b⟩
   ·have has2:Lck.asked (l.take k) x.c=false:=Bool.eq_false_iff.2 has
    replace HGk:=zH (HGk.out ⟨hok,has2⟩)
    rw[has2] at HP
    clear hok HN has has2
    go_wp2_with (first|refine zX (exec_lr (x:=x) (off:=o+k*3) _ (by rfl) (by rfl) (HX.out _ HK.out.b)) ?_|(refine wpList_akr HK rfl rfl ?_;intro _ g2 HK';simp only[lcA,lnA] at HK';replace HK:=HK';clear HK')|(refine wpList_sr HK 0 rfl _ _ rfl rfl rfl rfl ?_;intro _ HK';simp only[List.set] at HK';replace HK:=HK';clear HK'))
    refine wp_region_held_drew (S:=(fun W=>Hid (Kn w.heap.size w W [(g2,35,#[.int .i64 x.c,.int .i64 x.e,.int .i64 x.r])] []))) (by kernel_rfl) ?_ (fun hHeld=>?_)
    ·(try dsimp only);exact zH HK.out.drew
    refine stk 0 12 rfl ?_ (fun w hSw=>kexec_lr hSw 0 _ (by rfl) (by rfl) (by rfl))
    refine srd1 1 (some 13) rfl (fun K hK=>?_)
    go_simp
    go_at_call 60
    refine(HCx.out _).mono ?_;rintro e w5 ⟨rfl,b5⟩;have hs:=zH (hHeld.out.call b5);clear b5
    refine hK.out _ _ hs (fun hHeld=>?_)
    clear hK K
    try simp only[ap1,ap2,ap3,ap4,ap5]
    refine stk 2 14 rfl ?_
    refine stk 3 15 rfl ?_
    refine stk 4 16 rfl ?_
    refine stk 5 17 rfl ?_
    refine stk 6 18 rfl ?_ (fun w hSw=>exec_srh (hi:=k) _ _ (by rfl) (by rfl) (by rfl) hkc)
    refine stk 7 19 rfl ?_
    refine stk 8 20 rfl ?_ (fun w hSw=>kexec_lc0 hSw 0 _ (by rfl) (by rfl) (by rfl))
    refine srd1 9 (some 21) rfl (fun K hK=>?_)
    go_simp
    go_at_call 209
    refine(HP.out _ hHeld.out.b).mono ?_;rintro e w5 ⟨rfl,b5⟩;have hs:=zH (hHeld.out.call b5);clear b5
    refine hK.out _ _ hs (fun hHeld=>?_)
    clear hK K
    try simp only[ap1,ap2,ap3,ap4,ap5]
    refine stk 10 22 rfl ?_
    refine wpAnyH_done (by kernel_rfl) ?_ _
    replace HK:=hHeld
    clear hHeld
    go_wp2_with (first|refine zX (exec_add1 (j:=k) _ (by rfl) (by rfl) hk3) ?_)
    exact⟨⟨k+1,hlt,rfl,HGk,zH (HK.out.takeL 0)⟩,by simp[intOf];omega⟩
  ·obtain rfl:k=n:=by omega
   have HR:=zH (HYes.out HGo.out)
   go_wp2_with fail
   go_ret
   exact⟨by rw[HR.out]<;>rfl,HK.out.b⟩
theorem rlright_any(A:Option Addr)(c n:Nat)(l:List Rf)(w:World)(hs:Sls rfLay rF w A n c l):
  Calls Tryz.prog 151 #[.slice A n c] w (IsB (decide (Lck.Right l)) w):=by
 obtain⟨hno,hyes⟩:=Lck.right_told hs.len
 have HNo:=zH hno
 have HYes:=zH hyes
 have HS:=zH hs
 have HC:=zH (fun x W=>rmr_any x W)
 have HK:=zH (Kn.start w)
 have hn63:n<9223372036854775807:=by
  have h:n*24≤140737488355328:=hs.big
  omega
 have HLen:=zH hs.len
 clear hs hyes hno
 unfold IsB at *
 generalize decide (Lck.Right l)=r at *
 go_enter Tryz.func151,Tryz.ntmps151
 go_wp2_with fail
 go_loopw [3] (fun vi wr=>∃k:Nat,k≤n∧vi=.int .i64 k∧Hid (∀(i:Nat) x,i<k→l[i]?=some x→Lck.ok x∧Lck.asked (l.take i) x.c=false)∧Hid (Kn w.heap.size w wr [] [])) (fun vi _=>n-(intOf vi).toNat)
 case atStart=>exact⟨0,Nat.zero_le _,rfl,zH (fun i v hi=>by omega),HK⟩
 case round=>
  clear HK
  obtain⟨k,hk,rfl,HGo,HK⟩:=hrel
  have hk1:(0:Int)≤(k:Int):=by omega
  by_cases hlt:k<n
  ·have hk2:(k:Int)<(n:Int):=by omega
   have hk3:k<9223372036854775807:=by omega
   obtain⟨x,hx,_⟩:=HS.out.get hlt
   obtain⟨b,o,rfl,hat⟩:=HS.out.at (Nat.lt_of_le_of_lt (Nat.zero_le _) hlt)
   have HX:=zH (fun W hW=>hat W hW k x hx)
   have HN:=zH (HNo.out k x hlt hx)
   have HGk:Hid (Lck.ok x∧Lck.asked (l.take k) x.c=false→∀(i:Nat) v,i<k+1→l[i]?=some v→Lck.ok v∧Lck.asked (l.take i) v.c=false):=zH fun h i v hi hv=>by
    by_cases hik:i=k
    ·subst hik;rw[hx] at hv;injection hv with hv;subst hv;exact h
    ·exact HGo.out i v (by omega) hv
   have HCx:=zH (fun W=>HC.out x W)
   have HY:Hid (∀j,j<k→∃y,l[j]?=some y∧(∀W,Below w.heap.size w W→∀(i:Nat) v,(rfL y)[i]?=some v→W.cell? ⟨b,o+j*3+i,none⟩=some v)):=zH fun j hj=>by
    obtain⟨y,hy⟩:=Lay.get_of (l:=l) (k:=j) (by rw[HLen.out];omega)
    exact⟨y,hy,fun W hW=>hat W hW j y hy⟩
   have HTd:=zH (Lck.asked_told (l:=l.take k) (n:=k) (by rw[List.length_take,HLen.out];omega) x.c)
   clear hat hx HNo HC
   by_cases hok:Lck.ok x
   case neg=>
    have HR:=zH (HN.out (fun h=>hok h.1))
    rw[decide_eq_false hok] at HCx
    clear hok HN HGk HTd
    go_wp2_with (first|refine zX (exec_lr (x:=x) (off:=o+k*3) _ (by rfl) (by rfl) (HX.out _ HK.out.b)) ?_)
    refine(HCx.out _).mono ?_;rintro e w1 ⟨rfl,b1⟩
    replace HK:=hkC HK b1;clear b1
    go_wp2_with fail
    go_ret
    exact⟨by rw[HR.out]<;>rfl,HK.out.b⟩
   case pos=>
   rw[decide_eq_true hok] at HCx
   have HOk:=zH hok
   clear hok
   go_wp2_with (first|refine zX (exec_lr (x:=x) (off:=o+k*3) _ (by rfl) (by rfl) (HX.out _ HK.out.b)) ?_)
   refine(HCx.out _).mono ?_;rintro e w1 ⟨rfl,b1⟩
   replace HK:=hkC HK b1;clear b1
   go_wp2_with fail
   go_loopw [4] (fun vj wr=>∃j:Nat,j≤k∧vj=.int .i64 j∧Hid (∀(i:Nat) y,i<j→(l.take k)[i]?=some y→¬y.c=x.c)∧Hid (Kn w.heap.size w wr [] [])) (fun vj _=>k-(intOf vj).toNat)
   case atStart=>exact⟨0,Nat.zero_le _,rfl,zH (fun i v hi=>by omega),HK⟩
   case round=>
    clear HK
    obtain⟨j,hj,rfl,HAl,HK⟩:=hrel
    have hj1:(0:Int)≤(j:Int):=by omega
    by_cases hjk:j<k
    ·have hj2:(j:Int)<(k:Int):=by omega
     have hj3:j<9223372036854775807:=by omega
     have hjn:j<n:=by omega
     obtain⟨y,hy,hyc⟩:=HY.out j hjk
     have HYc:=zH hyc
     have hyt:(l.take k)[j]?=some y:=by rw[List.getElem?_take,if_pos hjk,hy]
     have HAk:Hid (¬y.c=x.c→∀(i:Nat) v,i<j+1→(l.take k)[i]?=some v→¬v.c=x.c):=zH fun h i v hi hv=>by
      by_cases hij:i=j
      ·subst hij;rw[hyt] at hv;injection hv with hv;subst hv;exact h
      ·exact HAl.out i v (by omega) hv
     have HHd:=zH (HTd.out.1 j y hyt)
     clear hy hyc hyt
     go_wp2_with fail
     by_cases he:y.c=x.c
     ·have hb:(y.c==x.c)=true:=by simpa using he
      have HR:=zH (HN.out (fun h=>by rw[HHd.out he] at h;cases h.2))
      clear he HAk HHd HTd HN
      refine wp_region_held_drew (S:=(fun W=>Hid (Kn w.heap.size w W [] []))) (by kernel_rfl) ?_ (fun hHeld=>?_)
      ·(try dsimp only);exact zH HK.out.drew
      refine stk 0 22 rfl ?_
      refine stk 1 23 rfl ?_
      refine stk 2 24 rfl ?_ (fun w hSw=>exec_ixr (i:=j) _ _ (by rfl) (by rfl) (by rfl) hjn)
      refine stk 3 25 rfl ?_
      refine stk 4 26 rfl ?_ (fun w hSw=>exec_lrc (x:=y) (off:=o+j*3) _ (by rfl) (by rfl) (HYc.out _ hSw.out.b))
      refine stk 5 27 rfl ?_
      refine stk 6 28 rfl ?_
      refine stk 7 29 rfl ?_ (fun w hSw=>exec_ixr (i:=k) _ _ (by rfl) (by rfl) (by rfl) hlt)
      refine stk 8 30 rfl ?_
      refine stk 9 31 rfl ?_ (fun w hSw=>exec_lrc (x:=x) (off:=o+k*3) _ (by rfl) (by rfl) (HX.out _ hSw.out.b))
      refine stk 10 32 rfl ?_
      refine wpAnyH_done (by kernel_rfl) ?_ _
      go_wp2_with fail
      go_ret
      exact⟨by rw[HR.out]<;>rfl,hHeld.out.b⟩
     ·have hb:(y.c==x.c)=false:=by simpa using he
      replace HAk:=zH (HAk.out he)
      clear he HHd HTd HN
      refine wp_region_held_drew (S:=(fun W=>Hid (Kn w.heap.size w W [] []))) (by kernel_rfl) ?_ (fun hHeld=>?_)
      ·(try dsimp only);exact zH HK.out.drew
      refine stk 0 22 rfl ?_
      refine stk 1 23 rfl ?_
      refine stk 2 24 rfl ?_ (fun w hSw=>exec_ixr (i:=j) _ _ (by rfl) (by rfl) (by rfl) hjn)
      refine stk 3 25 rfl ?_
      refine stk 4 26 rfl ?_ (fun w hSw=>exec_lrc (x:=y) (off:=o+j*3) _ (by rfl) (by rfl) (HYc.out _ hSw.out.b))
      refine stk 5 27 rfl ?_
      refine stk 6 28 rfl ?_
      refine stk 7 29 rfl ?_ (fun w hSw=>exec_ixr (i:=k) _ _ (by rfl) (by rfl) (by rfl) hlt)
      refine stk 8 30 rfl ?_
      refine stk 9 31 rfl ?_ (fun w hSw=>exec_lrc (x:=x) (off:=o+k*3) _ (by rfl) (by rfl) (HX.out _ hSw.out.b))
      refine stk 10 32 rfl ?_
      refine wpAnyH_done (by kernel_rfl) ?_ _
      go_wp2_with (first|refine zX (exec_add1 (j:=j) _ (by rfl) (by rfl) hj3) ?_)
      exact⟨⟨j+1,hjk,rfl,HAk,hHeld⟩,by simp[intOf];omega⟩
    ·obtain rfl:j=k:=by omega
     replace HGk:=zH (HGk.out ⟨HOk.out,HTd.out.2 HAl.out⟩)
     clear HTd HAl HN
     go_wp2_with (first|refine zX (exec_add1 (j:=j) _ (by rfl) (by rfl) hk3) ?_)
     exact⟨⟨j+1,hlt,rfl,HGk,HK⟩,by simp[intOf];omega⟩
  ·obtain rfl:k=n:=by omega
   have HR:=zH (HYes.out HGo.out)
   go_wp2_with fail
   go_ret
   exact⟨by rw[HR.out]<;>rfl,HK.out.b⟩
end
section
open Go.RowKit
theorem gright_any(m:Int)(A:Option Addr)(c n:Nat)(l:List Rf)(w:World)(hs:Sls rfLay rF w A n c l):
  Calls Tryz.prog 145 #[.int .i64 m,.slice A n c] w (IsB (decide (Gt.Right m l)) w):=by
 have HM:=zH (fun W (hW:Below w.heap.size w W)=>lright_any A c n l W (hs.later hW))
 have HK:=zH (Kn.start w)
 have hlen:=hs.len
 unfold IsB at *
 by_cases h1:1≤m
 case neg=>
  rw[decide_eq_false (fun h=>h1 h.1)]
  clear hs hlen HM
  go_enter Tryz.func145,Tryz.ntmps145
  go_wp2_with fail
  go_ret
  exact⟨rfl,HK.out.b⟩
 by_cases h2:m≤5
 case neg=>
  rw[decide_eq_false (fun h=>h2 h.2.1)]
  clear hs hlen HM
  go_enter Tryz.func145,Tryz.ntmps145
  go_wp2_with fail
  go_ret
  exact⟨rfl,HK.out.b⟩
 by_cases h3:(n:Int)<m
 case neg=>
  rw[decide_eq_false (fun h=>h3 (by rw[← hlen];exact h.2.2.1))]
  clear hs hlen HM
  go_enter Tryz.func145,Tryz.ntmps145
  go_wp2_with fail
  go_ret
  exact⟨rfl,HK.out.b⟩
 have he:decide (Gt.Right m l)=decide (Lck.Right l):=decide_eq_decide.2 ⟨fun h=>h.2.2.2,fun h=>⟨h1,h2,by rw[hlen];exact h3,h⟩⟩
 rw[he]
 clear hs hlen he
 generalize decide (Lck.Right l)=b at *
 go_enter Tryz.func145,Tryz.ntmps145
 go_wp2_with fail
 refine(HM.out _ HK.out.b).mono ?_;rintro e w1 ⟨rfl,b1⟩
 replace HK:=hkC HK b1;clear b1
 go_wp2_with fail
 go_ret
 exact⟨by cases b<;>rfl,HK.out.b⟩
theorem rgright_any(m:Int)(A:Option Addr)(c n:Nat)(l:List Rf)(w:World)(hs:Sls rfLay rF w A n c l):
  Calls Tryz.prog 152 #[.int .i64 m,.slice A n c] w (IsB (decide (Gt.Right m l)) w):=by
 have HM:=zH (fun W (hW:Below w.heap.size w W)=>rlright_any A c n l W (hs.later hW))
 have HK:=zH (Kn.start w)
 have hlen:=hs.len
 unfold IsB at *
 by_cases h1:1≤m
 case neg=>
  rw[decide_eq_false (fun h=>h1 h.1)]
  clear hs hlen HM
  go_enter Tryz.func152,Tryz.ntmps152
  go_wp2_with fail
  go_ret
  exact⟨rfl,HK.out.b⟩
 by_cases h2:m≤5
 case neg=>
  rw[decide_eq_false (fun h=>h2 h.2.1)]
  clear hs hlen HM
  go_enter Tryz.func152,Tryz.ntmps152
  go_wp2_with fail
  go_ret
  exact⟨rfl,HK.out.b⟩
 by_cases h3:(n:Int)<m
 case neg=>
  rw[decide_eq_false (fun h=>h3 (by rw[← hlen];exact h.2.2.1))]
  clear hs hlen HM
  go_enter Tryz.func152,Tryz.ntmps152
  go_wp2_with fail
  go_ret
  exact⟨rfl,HK.out.b⟩
 have he:decide (Gt.Right m l)=decide (Lck.Right l):=decide_eq_decide.2 ⟨fun h=>h.2.2.2,fun h=>⟨h1,h2,by rw[hlen];exact h3,h⟩⟩
 rw[he]
 clear hs hlen he
 generalize decide (Lck.Right l)=b at *
 go_enter Tryz.func152,Tryz.ntmps152
 go_wp2_with fail
 refine(HM.out _ HK.out.b).mono ?_;rintro e w1 ⟨rfl,b1⟩
 replace HK:=hkC HK b1;clear b1
 go_wp2_with fail
 go_ret
 exact⟨by cases b<;>rfl,HK.out.b⟩
end
section
open Go.RowKit
theorem mright_any(x:Mtr)(hf:Mt.Fit x)(w:World):
  Calls Tryz.prog 146 #[.agg #[.int .i64 x.n,.int .u64 (x.s:Int),.int .u64 (x.l:Int),.int .u64 (x.m:Int)]] w (IsB (decide (Mt.Ok x)) w):=by
 obtain⟨n,s,l,m⟩:=x
 obtain⟨_,f1,f2,f3⟩:=hf
 dsimp only at f1 f2 f3
 have H1:=zH (fun w=>make_any s w f1)
 have H2:=zH (fun w=>make_any l w f2)
 have H3:=zH (fun w=>make_any m w f3)
 have H4:=zH (fun w=>cmp_any l m w f2 f3)
 have HT:=zH (fun w=>told_ar n s l m w)
 have HK:=kn1 w 61 (mC n s l m)
 unfold IsB
 by_cases hn:0<n
 case neg=>
  have HE:Hid (decide ((⟨n,s,l,m⟩:Mtr)=⟨0,0,0,0⟩)=decide (Mt.Ok ⟨n,s,l,m⟩)):=zH (Mt.ok_none hn)
  generalize decide (Mt.Ok ⟨n,s,l,m⟩)=b at *
  go_enter Tryz.func146,Tryz.ntmps146
  go_wp2_with (first|refine zX (kexec_lm HK 0 _ (by rfl) (by rfl) (by rfl)) ?_|refine zX (exec_meq (x:=⟨n,s,l,m⟩) (y:=⟨0,0,0,0⟩) _ _ (by rfl) (by rfl) (by rfl) HE.out) ?_)
  go_ret
  exact⟨rfl,HK.out.b⟩
 case pos=>
 clear f1 f2 f3
 by_cases hs:Num.M s=s
 case neg=>
  have hok:decide (Mt.Ok ⟨n,s,l,m⟩)=false:=decide_eq_false (Mt.ok_s hn hs)
  rw[hok]
  have hne:((Num.M s:Int) != (s:Int))=true:=by rw[bne_iff_ne];omega
  clear hok hs
  generalize Num.M s=t at *
  go_enter Tryz.func146,Tryz.ntmps146
  go_wp2_with (first|refine zX (kexec_lm HK 0 _ (by rfl) (by rfl) (by rfl)) ?_)
  refine(HT.out _).mono ?_;rintro e w1 ⟨rfl,b1⟩
  replace HK:=hkC HK b1;clear b1
  go_wp2_with (first|(refine wpList_aka HK rfl rfl ?_;intro _ g3 HK';simp only[lcA,lnA] at HK';replace HK:=HK';clear HK')|(refine wpList_sa HK 1 rfl _ _ rfl rfl rfl rfl ?_;intro _ HK';simp only[List.set] at HK';replace HK:=HK';clear HK'))
  refine wp_loop_rounds 4 ?_
  rw[rounds_succ]
  go_wp2_with (first|refine zX (kexec_a1 HK 1 _ (by rfl) (by rfl) (by rfl)) ?_|(refine wpList_akv HK rfl rfl ?_;intro _ g5 HK';simp only[lcA,lnA] at HK';replace HK:=HK';clear HK')|(refine wpList_sv (f2:=s) HK 2 rfl _ _ rfl rfl rfl rfl ?_;intro _ HK';simp only[List.set] at HK';replace HK:=HK';clear HK'))
  refine wp_region_held_drew (S:=(fun W=>Hid (Kn w.heap.size w W [(w.heap.size,61,mC n s l m),(g3,248,arC n s l m),(g5,26,vC 2 0 s ⟨#[]⟩)] []))) (by kernel_rfl) ?_ (fun hHeld=>?_)
  ·(try dsimp only);exact zH HK.out.drew
  refine stk 0 20 rfl ?_
  refine stk 1 21 rfl ?_ (fun w hSw=>kexec_vf hSw 2 _ (by rfl) (by rfl) (by rfl))
  refine stk 3 23 rfl ?_
  refine stk 4 24 rfl ?_ (fun w hSw=>kexec_vf hSw 2 _ (by rfl) (by rfl) (by rfl))
  refine srd1 2 (some 22) rfl (fun K hK=>?_)
  go_simp
  go_at_call 181
  refine(H1.out _).mono ?_;rintro e w5 ⟨rfl,rfl⟩;have hs:=hHeld
  refine hK.out _ _ hs (fun hHeld=>?_)
  clear hK K
  try simp only[ap1,ap2,ap3,ap4,ap5]
  refine stk 5 25 rfl ?_
  refine wpAnyH_done (by kernel_rfl) ?_ _
  replace HK:=zH (hHeld.out.takeL 2)
  clear hHeld
  simp only[List.take] at HK
  go_wp2_with fail
  go_ret
  exact⟨rfl,HK.out.b⟩
 case pos=>
 rw[hs] at H1
 by_cases hl:Num.M l=l
 case neg=>
  have hok:decide (Mt.Ok ⟨n,s,l,m⟩)=false:=decide_eq_false (Mt.ok_l hn hl)
  rw[hok]
  have hne:((Num.M l:Int) != (l:Int))=true:=by rw[bne_iff_ne];omega
  clear hok hl
  generalize Num.M l=t at *
  go_enter Tryz.func146,Tryz.ntmps146
  go_wp2_with (first|refine zX (kexec_lm HK 0 _ (by rfl) (by rfl) (by rfl)) ?_)
  refine(HT.out _).mono ?_;rintro e w1 ⟨rfl,b1⟩
  replace HK:=hkC HK b1;clear b1
  go_wp2_with (first|(refine wpList_aka HK rfl rfl ?_;intro _ g3 HK';simp only[lcA,lnA] at HK';replace HK:=HK';clear HK')|(refine wpList_sa HK 1 rfl _ _ rfl rfl rfl rfl ?_;intro _ HK';simp only[List.set] at HK';replace HK:=HK';clear HK'))
  refine wp_loop_rounds 4 ?_
  rw[rounds_succ]
  go_wp2_with (first|refine zX (kexec_a1 HK 1 _ (by rfl) (by rfl) (by rfl)) ?_|(refine wpList_akv HK rfl rfl ?_;intro _ g5 HK';simp only[lcA,lnA] at HK';replace HK:=HK';clear HK')|(refine wpList_sv (f2:=s) HK 2 rfl _ _ rfl rfl rfl rfl ?_;intro _ HK';simp only[List.set] at HK';replace HK:=HK';clear HK'))
  refine wp_region_held_drew (S:=(fun W=>Hid (Kn w.heap.size w W [(w.heap.size,61,mC n s l m),(g3,248,arC n s l m),(g5,26,vC 2 0 s ⟨#[]⟩)] []))) (by kernel_rfl) ?_ (fun hHeld=>?_)
  ·(try dsimp only);exact zH HK.out.drew
  refine stk 0 20 rfl ?_
  refine stk 1 21 rfl ?_ (fun w hSw=>kexec_vf hSw 2 _ (by rfl) (by rfl) (by rfl))
  refine stk 3 23 rfl ?_
  refine stk 4 24 rfl ?_ (fun w hSw=>kexec_vf hSw 2 _ (by rfl) (by rfl) (by rfl))
  refine srd1 2 (some 22) rfl (fun K hK=>?_)
  go_simp
  go_at_call 181
  refine(H1.out _).mono ?_;rintro e w5 ⟨rfl,rfl⟩;have hs:=hHeld
  refine hK.out _ _ hs (fun hHeld=>?_)
  clear hK K
  try simp only[ap1,ap2,ap3,ap4,ap5]
  refine stk 5 25 rfl ?_
  refine wpAnyH_done (by kernel_rfl) ?_ _
  replace HK:=zH (hHeld.out.takeL 2)
  clear hHeld
  simp only[List.take] at HK
  go_wp2_with fail
  rw[rounds_succ]
  go_wp2_with (first|refine zX (kexec_a2 HK 1 _ (by rfl) (by rfl) (by rfl)) ?_|(refine wpList_akv HK rfl rfl ?_;intro _ g5 HK';simp only[lcA,lnA] at HK';replace HK:=HK';clear HK')|(refine wpList_sv (f2:=l) HK 2 rfl _ _ rfl rfl rfl rfl ?_;intro _ HK';simp only[List.set] at HK';replace HK:=HK';clear HK'))
  refine wp_region_held_drew (S:=(fun W=>Hid (Kn w.heap.size w W [(w.heap.size,61,mC n s l m),(g3,248,arC n s l m),(g5,26,vC 2 0 l ⟨#[]⟩)] []))) (by kernel_rfl) ?_ (fun hHeld=>?_)
  ·(try dsimp only);exact zH HK.out.drew
  refine stk 0 20 rfl ?_
  refine stk 1 21 rfl ?_ (fun w hSw=>kexec_vf hSw 2 _ (by rfl) (by rfl) (by rfl))
  refine stk 3 23 rfl ?_
  refine stk 4 24 rfl ?_ (fun w hSw=>kexec_vf hSw 2 _ (by rfl) (by rfl) (by rfl))
  refine srd1 2 (some 22) rfl (fun K hK=>?_)
  go_simp
  go_at_call 181
  refine(H2.out _).mono ?_;rintro e w5 ⟨rfl,rfl⟩;have hs:=hHeld
  refine hK.out _ _ hs (fun hHeld=>?_)
  clear hK K
  try simp only[ap1,ap2,ap3,ap4,ap5]
  refine stk 5 25 rfl ?_
  refine wpAnyH_done (by kernel_rfl) ?_ _
  replace HK:=zH (hHeld.out.takeL 2)
  clear hHeld
  simp only[List.take] at HK
  go_wp2_with fail
  go_ret
  exact⟨rfl,HK.out.b⟩
 case pos=>
 rw[hl] at H2
 by_cases hm:Num.M m=m
 case neg=>
  have hok:decide (Mt.Ok ⟨n,s,l,m⟩)=false:=decide_eq_false (Mt.ok_m hn hm)
  rw[hok]
  have hne:((Num.M m:Int) != (m:Int))=true:=by rw[bne_iff_ne];omega
  clear hok hm
  generalize Num.M m=t at *
  go_enter Tryz.func146,Tryz.ntmps146
  go_wp2_with (first|refine zX (kexec_lm HK 0 _ (by rfl) (by rfl) (by rfl)) ?_)
  refine(HT.out _).mono ?_;rintro e w1 ⟨rfl,b1⟩
  replace HK:=hkC HK b1;clear b1
  go_wp2_with (first|(refine wpList_aka HK rfl rfl ?_;intro _ g3 HK';simp only[lcA,lnA] at HK';replace HK:=HK';clear HK')|(refine wpList_sa HK 1 rfl _ _ rfl rfl rfl rfl ?_;intro _ HK';simp only[List.set] at HK';replace HK:=HK';clear HK'))
  refine wp_loop_rounds 4 ?_
  rw[rounds_succ]
  go_wp2_with (first|refine zX (kexec_a1 HK 1 _ (by rfl) (by rfl) (by rfl)) ?_|(refine wpList_akv HK rfl rfl ?_;intro _ g5 HK';simp only[lcA,lnA] at HK';replace HK:=HK';clear HK')|(refine wpList_sv (f2:=s) HK 2 rfl _ _ rfl rfl rfl rfl ?_;intro _ HK';simp only[List.set] at HK';replace HK:=HK';clear HK'))
  refine wp_region_held_drew (S:=(fun W=>Hid (Kn w.heap.size w W [(w.heap.size,61,mC n s l m),(g3,248,arC n s l m),(g5,26,vC 2 0 s ⟨#[]⟩)] []))) (by kernel_rfl) ?_ (fun hHeld=>?_)
  ·(try dsimp only);exact zH HK.out.drew
  refine stk 0 20 rfl ?_
  refine stk 1 21 rfl ?_ (fun w hSw=>kexec_vf hSw 2 _ (by rfl) (by rfl) (by rfl))
  refine stk 3 23 rfl ?_
  refine stk 4 24 rfl ?_ (fun w hSw=>kexec_vf hSw 2 _ (by rfl) (by rfl) (by rfl))
  refine srd1 2 (some 22) rfl (fun K hK=>?_)
  go_simp
  go_at_call 181
  refine(H1.out _).mono ?_;rintro e w5 ⟨rfl,rfl⟩;have hs:=hHeld
  refine hK.out _ _ hs (fun hHeld=>?_)
  clear hK K
  try simp only[ap1,ap2,ap3,ap4,ap5]
  refine stk 5 25 rfl ?_
  refine wpAnyH_done (by kernel_rfl) ?_ _
  replace HK:=zH (hHeld.out.takeL 2)
  clear hHeld
  simp only[List.take] at HK
  go_wp2_with fail
  rw[rounds_succ]
  go_wp2_with (first|refine zX (kexec_a2 HK 1 _ (by rfl) (by rfl) (by rfl)) ?_|(refine wpList_akv HK rfl rfl ?_;intro _ g5 HK';simp only[lcA,lnA] at HK';replace HK:=HK';clear HK')|(refine wpList_sv (f2:=l) HK 2 rfl _ _ rfl rfl rfl rfl ?_;intro _ HK';simp only[List.set] at HK';replace HK:=HK';clear HK'))
  refine wp_region_held_drew (S:=(fun W=>Hid (Kn w.heap.size w W [(w.heap.size,61,mC n s l m),(g3,248,arC n s l m),(g5,26,vC 2 0 l ⟨#[]⟩)] []))) (by kernel_rfl) ?_ (fun hHeld=>?_)
  ·(try dsimp only);exact zH HK.out.drew
  refine stk 0 20 rfl ?_
  refine stk 1 21 rfl ?_ (fun w hSw=>kexec_vf hSw 2 _ (by rfl) (by rfl) (by rfl))
  refine stk 3 23 rfl ?_
  refine stk 4 24 rfl ?_ (fun w hSw=>kexec_vf hSw 2 _ (by rfl) (by rfl) (by rfl))
  refine srd1 2 (some 22) rfl (fun K hK=>?_)
  go_simp
  go_at_call 181
  refine(H2.out _).mono ?_;rintro e w5 ⟨rfl,rfl⟩;have hs:=hHeld
  refine hK.out _ _ hs (fun hHeld=>?_)
  clear hK K
  try simp only[ap1,ap2,ap3,ap4,ap5]
  refine stk 5 25 rfl ?_
  refine wpAnyH_done (by kernel_rfl) ?_ _
  replace HK:=zH (hHeld.out.takeL 2)
  clear hHeld
  simp only[List.take] at HK
  go_wp2_with fail
  rw[rounds_succ]
  go_wp2_with (first|refine zX (kexec_a3 HK 1 _ (by rfl) (by rfl) (by rfl)) ?_|(refine wpList_akv HK rfl rfl ?_;intro _ g5 HK';simp only[lcA,lnA] at HK';replace HK:=HK';clear HK')|(refine wpList_sv (f2:=m) HK 2 rfl _ _ rfl rfl rfl rfl ?_;intro _ HK';simp only[List.set] at HK';replace HK:=HK';clear HK'))
  refine wp_region_held_drew (S:=(fun W=>Hid (Kn w.heap.size w W [(w.heap.size,61,mC n s l m),(g3,248,arC n s l m),(g5,26,vC 2 0 m ⟨#[]⟩)] []))) (by kernel_rfl) ?_ (fun hHeld=>?_)
  ·(try dsimp only);exact zH HK.out.drew
  refine stk 0 20 rfl ?_
  refine stk 1 21 rfl ?_ (fun w hSw=>kexec_vf hSw 2 _ (by rfl) (by rfl) (by rfl))
  refine stk 3 23 rfl ?_
  refine stk 4 24 rfl ?_ (fun w hSw=>kexec_vf hSw 2 _ (by rfl) (by rfl) (by rfl))
  refine srd1 2 (some 22) rfl (fun K hK=>?_)
  go_simp
  go_at_call 181
  refine(H3.out _).mono ?_;rintro e w5 ⟨rfl,rfl⟩;have hs:=hHeld
  refine hK.out _ _ hs (fun hHeld=>?_)
  clear hK K
  try simp only[ap1,ap2,ap3,ap4,ap5]
  refine stk 5 25 rfl ?_
  refine wpAnyH_done (by kernel_rfl) ?_ _
  replace HK:=zH (hHeld.out.takeL 2)
  clear hHeld
  simp only[List.take] at HK
  go_wp2_with fail
  go_ret
  exact⟨rfl,HK.out.b⟩
 case pos=>
  rw[hm] at H3
  have hok:decide (Mt.Ok ⟨n,s,l,m⟩)=decide (Num.cmp l m≤0):=decide_eq_decide.2 (Mt.ok_all hn hs hl hm)
  rw[hok]
  clear hok
  generalize Num.cmp l m=c at *
  clear hs hl hm
  go_enter Tryz.func146,Tryz.ntmps146
  go_wp2_with (first|refine zX (kexec_lm HK 0 _ (by rfl) (by rfl) (by rfl)) ?_)
  refine(HT.out _).mono ?_;rintro e w1 ⟨rfl,b1⟩
  replace HK:=hkC HK b1;clear b1
  go_wp2_with (first|(refine wpList_aka HK rfl rfl ?_;intro _ g3 HK';simp only[lcA,lnA] at HK';replace HK:=HK';clear HK')|(refine wpList_sa HK 1 rfl _ _ rfl rfl rfl rfl ?_;intro _ HK';simp only[List.set] at HK';replace HK:=HK';clear HK'))
  refine wp_loop_rounds 4 ?_
  rw[rounds_succ]
  go_wp2_with (first|refine zX (kexec_a1 HK 1 _ (by rfl) (by rfl) (by rfl)) ?_|(refine wpList_akv HK rfl rfl ?_;intro _ g5 HK';simp only[lcA,lnA] at HK';replace HK:=HK';clear HK')|(refine wpList_sv (f2:=s) HK 2 rfl _ _ rfl rfl rfl rfl ?_;intro _ HK';simp only[List.set] at HK';replace HK:=HK';clear HK'))
  refine wp_region_held_drew (S:=(fun W=>Hid (Kn w.heap.size w W [(w.heap.size,61,mC n s l m),(g3,248,arC n s l m),(g5,26,vC 2 0 s ⟨#[]⟩)] []))) (by kernel_rfl) ?_ (fun hHeld=>?_)
  ·(try dsimp only);exact zH HK.out.drew
  refine stk 0 20 rfl ?_
  refine stk 1 21 rfl ?_ (fun w hSw=>kexec_vf hSw 2 _ (by rfl) (by rfl) (by rfl))
  refine stk 3 23 rfl ?_
  refine stk 4 24 rfl ?_ (fun w hSw=>kexec_vf hSw 2 _ (by rfl) (by rfl) (by rfl))
  refine srd1 2 (some 22) rfl (fun K hK=>?_)
  go_simp
  go_at_call 181
  refine(H1.out _).mono ?_;rintro e w5 ⟨rfl,rfl⟩;have hs:=hHeld
  refine hK.out _ _ hs (fun hHeld=>?_)
  clear hK K
  try simp only[ap1,ap2,ap3,ap4,ap5]
  refine stk 5 25 rfl ?_
  refine wpAnyH_done (by kernel_rfl) ?_ _
  replace HK:=zH (hHeld.out.takeL 2)
  clear hHeld
  simp only[List.take] at HK
  go_wp2_with fail
  rw[rounds_succ]
  go_wp2_with (first|refine zX (kexec_a2 HK 1 _ (by rfl) (by rfl) (by rfl)) ?_|(refine wpList_akv HK rfl rfl ?_;intro _ g5 HK';simp only[lcA,lnA] at HK';replace HK:=HK';clear HK')|(refine wpList_sv (f2:=l) HK 2 rfl _ _ rfl rfl rfl rfl ?_;intro _ HK';simp only[List.set] at HK';replace HK:=HK';clear HK'))
  refine wp_region_held_drew (S:=(fun W=>Hid (Kn w.heap.size w W [(w.heap.size,61,mC n s l m),(g3,248,arC n s l m),(g5,26,vC 2 0 l ⟨#[]⟩)] []))) (by kernel_rfl) ?_ (fun hHeld=>?_)
  ·(try dsimp only);exact zH HK.out.drew
  refine stk 0 20 rfl ?_
  refine stk 1 21 rfl ?_ (fun w hSw=>kexec_vf hSw 2 _ (by rfl) (by rfl) (by rfl))
  refine stk 3 23 rfl ?_
  refine stk 4 24 rfl ?_ (fun w hSw=>kexec_vf hSw 2 _ (by rfl) (by rfl) (by rfl))
  refine srd1 2 (some 22) rfl (fun K hK=>?_)
  go_simp
  go_at_call 181
  refine(H2.out _).mono ?_;rintro e w5 ⟨rfl,rfl⟩;have hs:=hHeld
  refine hK.out _ _ hs (fun hHeld=>?_)
  clear hK K
  try simp only[ap1,ap2,ap3,ap4,ap5]
  refine stk 5 25 rfl ?_
  refine wpAnyH_done (by kernel_rfl) ?_ _
  replace HK:=zH (hHeld.out.takeL 2)
  clear hHeld
  simp only[List.take] at HK
  go_wp2_with fail
  rw[rounds_succ]
  go_wp2_with (first|refine zX (kexec_a3 HK 1 _ (by rfl) (by rfl) (by rfl)) ?_|(refine wpList_akv HK rfl rfl ?_;intro _ g5 HK';simp only[lcA,lnA] at HK';replace HK:=HK';clear HK')|(refine wpList_sv (f2:=m) HK 2 rfl _ _ rfl rfl rfl rfl ?_;intro _ HK';simp only[List.set] at HK';replace HK:=HK';clear HK'))
  refine wp_region_held_drew (S:=(fun W=>Hid (Kn w.heap.size w W [(w.heap.size,61,mC n s l m),(g3,248,arC n s l m),(g5,26,vC 2 0 m ⟨#[]⟩)] []))) (by kernel_rfl) ?_ (fun hHeld=>?_)
  ·(try dsimp only);exact zH HK.out.drew
  refine stk 0 20 rfl ?_
  refine stk 1 21 rfl ?_ (fun w hSw=>kexec_vf hSw 2 _ (by rfl) (by rfl) (by rfl))
  refine stk 3 23 rfl ?_
  refine stk 4 24 rfl ?_ (fun w hSw=>kexec_vf hSw 2 _ (by rfl) (by rfl) (by rfl))
  refine srd1 2 (some 22) rfl (fun K hK=>?_)
  go_simp
  go_at_call 181
  refine(H3.out _).mono ?_;rintro e w5 ⟨rfl,rfl⟩;have hs:=hHeld
  refine hK.out _ _ hs (fun hHeld=>?_)
  clear hK K
  try simp only[ap1,ap2,ap3,ap4,ap5]
  refine stk 5 25 rfl ?_
  refine wpAnyH_done (by kernel_rfl) ?_ _
  replace HK:=zH (hHeld.out.takeL 2)
  clear hHeld
  simp only[List.take] at HK
  go_wp2_with fail
  rw[rounds_succ]
  go_wp2_with (first|refine zX (kexec_ml HK 0 _ (by rfl) (by rfl) (by rfl)) ?_|refine zX (kexec_mm HK 0 _ (by rfl) (by rfl) (by rfl)) ?_)
  refine(H4.out _).mono ?_;rintro e w1 ⟨rfl,rfl⟩
  go_wp2_with fail
  go_ret
  exact⟨rfl,HK.out.b⟩
end
section
open Go.RowKit
theorem sound_any(x:Oh)(w:World)(hx:In w x):Calls Tryz.prog 80 #[.agg (obA x)] w (IsB (Sto.sound x.v) w):=by
 have HI:=zH hx
 have HK:=kn1 w 63 (obA x)
 have HD:=zH right_any
 have HQ:=zH qright_any
 have HL:=zH lright_any
 have HG:=zH gright_any
 have HM:=zH mright_any
 clear hx
 unfold IsB Sto.sound at *
 by_cases h1:x.v.kind=1
 ·rw[if_pos h1]
  go_enter Tryz.func80,Tryz.ntmps80
  go_wp2_with (first|refine zX (kob_k HK 0 _ (by rfl) (by rfl) (by rfl)) ?_|refine zX (kob_p HK 0 _ (by rfl) (by rfl) (by rfl)) ?_)
  refine(HD.out _ _ _ _ _ (HI.out.p.later HK.out.b)).mono ?_;rintro e w1 ⟨rfl,b1⟩
  replace HK:=hkC HK b1;clear b1
  go_wp2_with fail
  go_ret
  exact⟨rfl,HK.out.b⟩
 rw[if_neg h1]
 by_cases h2:x.v.kind=2
 ·rw[if_pos h2]
  go_enter Tryz.func80,Tryz.ntmps80
  go_wp2_with (first|refine zX (kob_k HK 0 _ (by rfl) (by rfl) (by rfl)) ?_|refine zX (kob_c HK 0 _ (by rfl) (by rfl) (by rfl)) ?_|refine zX (kob_v HK 0 _ (by rfl) (by rfl) (by rfl)) ?_)
  refine(HQ.out _ _ _ _ _ _ (HI.out.v.later HK.out.b)).mono ?_;rintro e w1 ⟨rfl,b1⟩
  replace HK:=hkC HK b1;clear b1
  go_wp2_with fail
  go_ret
  exact⟨rfl,HK.out.b⟩
 rw[if_neg h2]
 by_cases h3:x.v.kind=3
 ·rw[if_pos h3]
  go_enter Tryz.func80,Tryz.ntmps80
  go_wp2_with (first|refine zX (kob_k HK 0 _ (by rfl) (by rfl) (by rfl)) ?_|refine zX (kob_r HK 0 _ (by rfl) (by rfl) (by rfl)) ?_)
  refine(HL.out _ _ _ _ _ (HI.out.r.later HK.out.b)).mono ?_;rintro e w1 ⟨rfl,b1⟩
  replace HK:=hkC HK b1;clear b1
  go_wp2_with fail
  go_ret
  exact⟨rfl,HK.out.b⟩
 rw[if_neg h3]
 by_cases h4:x.v.kind=4
 ·rw[if_pos h4]
  generalize hg:decide (Gt.Right x.v.cap x.v.refs)=gb
  have HGb:=zH hg
  clear hg
  cases gb
  ·go_enter Tryz.func80,Tryz.ntmps80
   go_wp2_with (first|refine zX (kob_k HK 0 _ (by rfl) (by rfl) (by rfl)) ?_|refine zX (kob_c HK 0 _ (by rfl) (by rfl) (by rfl)) ?_|refine zX (kob_r HK 0 _ (by rfl) (by rfl) (by rfl)) ?_)
   refine(HG.out _ _ _ _ _ _ (HI.out.r.later HK.out.b)).mono ?_;rintro e w1 ⟨rfl,b1⟩
   rw[HGb.out]
   replace HK:=hkC HK b1;clear b1
   go_wp2_with fail
   go_ret
   exact⟨rfl,HK.out.b⟩
  ·go_enter Tryz.func80,Tryz.ntmps80
   go_wp2_with (first|refine zX (kob_k HK 0 _ (by rfl) (by rfl) (by rfl)) ?_|refine zX (kob_c HK 0 _ (by rfl) (by rfl) (by rfl)) ?_|refine zX (kob_r HK 0 _ (by rfl) (by rfl) (by rfl)) ?_)
   refine(HG.out _ _ _ _ _ _ (HI.out.r.later HK.out.b)).mono ?_;rintro e w1 ⟨rfl,b1⟩
   rw[HGb.out]
   replace HK:=hkC HK b1;clear b1
   go_wp2_with (first|refine zX (kob_d HK 0 _ (by rfl) (by rfl) (by rfl)) ?_)
   go_ret
   exact⟨rfl,HK.out.b⟩
 rw[if_neg h4]
 by_cases h5:x.v.kind=5
 ·rw[if_pos h5]
  go_enter Tryz.func80,Tryz.ntmps80
  go_wp2_with (first|refine zX (kob_k HK 0 _ (by rfl) (by rfl) (by rfl)) ?_|refine zX (kob_m HK 0 _ (by rfl) (by rfl) (by rfl)) ?_)
  refine(HM.out x.v.mt HI.out.m _).mono ?_;rintro e w1 ⟨rfl,b1⟩
  replace HK:=hkC HK b1;clear b1
  go_wp2_with fail
  go_ret
  exact⟨rfl,HK.out.b⟩
 ·rw[if_neg h5]
  go_enter Tryz.func80,Tryz.ntmps80
  go_wp2_with (first|refine zX (kob_k HK 0 _ (by rfl) (by rfl) (by rfl)) ?_)
  go_ret
  exact⟨rfl,HK.out.b⟩
end
section
open Go.RowKit
theorem oright_any(A:Option Addr)(c n:Nat)(l:List Oh)(w:World)(hs:Obs w A n c l):
  Calls Tryz.prog 35 #[.slice A n c] w (IsB (decide (Sto.Right (vs l))) w):=by
 unfold IsB
 by_cases hn:8<n
 ·have hd:decide (Sto.Right (vs l))=false:=decide_eq_false fun h=>by have:=h.len;rw[vs_len,hs.len] at this;omega
  rw[hd]
  have hn2:8<(n:Int):=by omega
  clear hs hd
  go_enter Tryz.func35,Tryz.ntmps35
  go_wp2_with fail
  go_ret
  exact⟨rfl,Below.refl _ w⟩
 have HS:=zH hs
 obtain⟨hno,hyes⟩:=Sto.right_told (l:=vs l) (by rw[vs_len];exact hs.len) (by omega:n≤8)
 have HNo:=zH hno
 have HYes:=zH hyes
 clear hs hno hyes
 generalize decide (Sto.Right (vs l))=r at *
 have hn2:¬8<(n:Int):=by omega
 have HK:=zH (Kn.start w)
 go_enter Tryz.func35,Tryz.ntmps35
 go_wp2_with fail
 go_loopw [10] (fun vi wr=>∃k:Nat,k≤n∧vi=.int .i64 k∧Hid (∀i,i<k→Sto.Good (vs l) i)∧Hid (Kn w.heap.size w wr [] [])) (fun vi _=>n-(intOf vi).toNat)
 case atStart=>exact⟨0,Nat.zero_le _,rfl,zH (fun i hi=>by omega),HK⟩
 case round=>
  clear HK
  obtain⟨k,hk,rfl,HGo,HK⟩:=hrel
  by_cases hlt:k<n
  ·obtain⟨x,hx,hin⟩:=HS.out.get hlt
   obtain⟨b,o,rfl,hat⟩:=HS.out.s.at (Nat.lt_of_le_of_lt (Nat.zero_le _) hlt)
   have HX:Hid (∀W,Below w.heap.size w W→∀j v,(obL x)[j]?=some v→W.cell? ⟨b,o+k*11+j,none⟩=some v):=zH (fun W hW=>hat W hW k x hx)
   have HPrev:Hid (∀j,k=j+1→∃y:Oh,(vs l)[j]?=some y.v∧∀W,Below w.heap.size w W→∀i v,(obL y)[i]?=some v→W.cell? ⟨b,o+j*11+i,none⟩=some v):=zH fun j hj=>by
    obtain⟨y,hy,_⟩:=HS.out.get (k:=j) (by omega)
    exact⟨y,vs_get hy,fun W hW=>hat W hW j y hy⟩
   have HNm:=zH (fun W=>snamed_any x.v.name W)
   have HCl:=zH (fun W (hW:Below w.heap.size w W)=>clean_any x W (hin.later hW))
   have HSo:=zH (fun W (hW:Below w.heap.size w W)=>sound_any x W (hin.later hW))
   have hxv:=vs_get hx
   have HIf:Hid (Sto.Good (vs l) k↔(Sto.One x.v=true∧∀j y,k=j+1→(vs l)[j]?=some y→Dct.lt y.name x.v.name=true)):=zH ⟨fun h=>h _ hxv,fun h x' hx'=>by rw[hxv] at hx';injection hx' with hx';subst hx';exact h⟩
   unfold Sto.One at HIf
   unfold IsB at HNm HCl HSo
   clear hat hin hx hxv
   generalize decide (Sto.named x.v.name)=q0 at *
   generalize Sto.clean x.v=q1 at *
   generalize Sto.sound x.v=q2 at *
   have hk1:(0:Int)≤(k:Int):=by omega
   have hk2:(k:Int)<(n:Int):=by omega
   go_wp2_with (first|(refine wpList_of_exec (v:=.agg (obA x)) (by rfl) (exec_obx (off:=o+k*11) _ (by rfl) (by rfl) (HX.out _ HK.out.b)) ?_)|(refine wpList_aob HK rfl rfl ?_;intro _ g2 HK';simp only[lnA] at HK';replace HK:=HK';clear HK')|(refine wpList_sob HK 0 rfl _ _ rfl rfl rfl rfl ?_;intro _ HK';simp only[List.set] at HK';replace HK:=HK';clear HK'))
   cases q0 with
   | false=>
    have HR:Hid (r=false):=zH (HNo.out k hlt fun h=>by have:=(HIf.out.1 h).1;simp at this)
    refine wp_region_held_drew (S:=(fun W=>Hid (Kn w.heap.size w W [(g2,63,obA x)] []))) (by kernel_rfl) ?_ (fun hHeld=>?_)
    ·(try dsimp only);exact zH HK.out.drew
    refine stk 0 15 rfl ?_
    refine stk 1 16 rfl ?_ (fun w hSw=>kob_n hSw 0 _ (by rfl) (by rfl) (by rfl))
    refine srd1 2 (some 17) rfl (fun K hK=>?_)
    go_simp
    go_at_call 78
    refine(HNm.out _).mono ?_;rintro e w5 ⟨rfl,b5⟩;have hs:=zH (hHeld.out.call b5);clear b5
    refine hK.out _ _ hs (fun hHeld=>?_)
    clear hK K
    try simp only[ap1,ap2,ap3,ap4,ap5]
    refine stk 3 18 rfl ?_
    refine stk 4 19 rfl ?_
    refine stu 5 20 rfl ?_
    refine stu 6 21 rfl ?_
    refine stu 7 22 rfl ?_
    refine stk 8 23 rfl ?_
    refine stk 9 24 rfl ?_
    refine stu 10 25 rfl ?_
    refine stu 11 26 rfl ?_
    refine stu 12 27 rfl ?_
    refine stk 13 28 rfl ?_
    refine stk 14 29 rfl ?_
    refine stu 15 30 rfl ?_
    refine stu 16 31 rfl ?_
    refine stu 17 32 rfl ?_
    refine stu 18 33 rfl ?_
    refine stu 19 34 rfl ?_
    refine stu 20 35 rfl ?_
    refine stu 21 36 rfl ?_
    refine stu 22 37 rfl ?_
    refine stu 23 38 rfl ?_
    refine stu 24 39 rfl ?_
    refine stu 25 40 rfl ?_
    refine stu 26 41 rfl ?_
    refine stu 27 42 rfl ?_
    refine stk 28 43 rfl ?_
    refine wpAnyH_done (by kernel_rfl) ?_ _
    go_wp2_with fail
    go_ret
    exact⟨by rw[HR.out]<;>rfl,hHeld.out.b⟩
   | true=>
   cases q1 with
   | false=>
    have HR:Hid (r=false):=zH (HNo.out k hlt fun h=>by have:=(HIf.out.1 h).1;simp at this)
    refine wp_region_held_drew (S:=(fun W=>Hid (Kn w.heap.size w W [(g2,63,obA x)] []))) (by kernel_rfl) ?_ (fun hHeld=>?_)
    ·(try dsimp only);exact zH HK.out.drew
    refine stk 0 15 rfl ?_
    refine stk 1 16 rfl ?_ (fun w hSw=>kob_n hSw 0 _ (by rfl) (by rfl) (by rfl))
    refine srd1 2 (some 17) rfl (fun K hK=>?_)
    go_simp
    go_at_call 78
    refine(HNm.out _).mono ?_;rintro e w5 ⟨rfl,b5⟩;have hs:=zH (hHeld.out.call b5);clear b5
    refine hK.out _ _ hs (fun hHeld=>?_)
    clear hK K
    try simp only[ap1,ap2,ap3,ap4,ap5]
    refine stk 3 18 rfl ?_
    refine stk 4 19 rfl ?_
    refine stk 5 20 rfl ?_ (fun w hSw=>kob hSw 0 _ (by rfl) (by rfl) (by rfl))
    refine srd1 6 (some 21) rfl (fun K hK=>?_)
    go_simp
    go_at_call 79
    refine(HCl.out _ hHeld.out.b).mono ?_;rintro e w5 ⟨rfl,b5⟩;have hs:=zH (hHeld.out.call b5);clear b5
    refine hK.out _ _ hs (fun hHeld=>?_)
    clear hK K
    try simp only[ap1,ap2,ap3,ap4,ap5]
    refine stk 7 22 rfl ?_
    refine stk 8 23 rfl ?_
    refine stk 9 24 rfl ?_
    refine stu 10 25 rfl ?_
    refine stu 11 26 rfl ?_
    refine stu 12 27 rfl ?_
    refine stk 13 28 rfl ?_
    refine stk 14 29 rfl ?_
    refine stu 15 30 rfl ?_
    refine stu 16 31 rfl ?_
    refine stu 17 32 rfl ?_
    refine stu 18 33 rfl ?_
    refine stu 19 34 rfl ?_
    refine stu 20 35 rfl ?_
    refine stu 21 36 rfl ?_
    refine stu 22 37 rfl ?_
    refine stu 23 38 rfl ?_
    refine stu 24 39 rfl ?_
    refine stu 25 40 rfl ?_
    refine stu 26 41 rfl ?_
    refine stu 27 42 rfl ?_
    refine stk 28 43 rfl ?_
    refine wpAnyH_done (by kernel_rfl) ?_ _
    go_wp2_with fail
    go_ret
    exact⟨by rw[HR.out]<;>rfl,hHeld.out.b⟩
   | true=>
   cases q2 with
   | false=>
    have HR:Hid (r=false):=zH (HNo.out k hlt fun h=>by have:=(HIf.out.1 h).1;simp at this)
    refine wp_region_held_drew (S:=(fun W=>Hid (Kn w.heap.size w W [(g2,63,obA x)] []))) (by kernel_rfl) ?_ (fun hHeld=>?_)
    ·(try dsimp only);exact zH HK.out.drew
    refine stk 0 15 rfl ?_
    refine stk 1 16 rfl ?_ (fun w hSw=>kob_n hSw 0 _ (by rfl) (by rfl) (by rfl))
    refine srd1 2 (some 17) rfl (fun K hK=>?_)
    go_simp
    go_at_call 78
    refine(HNm.out _).mono ?_;rintro e w5 ⟨rfl,b5⟩;have hs:=zH (hHeld.out.call b5);clear b5
    refine hK.out _ _ hs (fun hHeld=>?_)
    clear hK K
    try simp only[ap1,ap2,ap3,ap4,ap5]
    refine stk 3 18 rfl ?_
    refine stk 4 19 rfl ?_
    refine stk 5 20 rfl ?_ (fun w hSw=>kob hSw 0 _ (by rfl) (by rfl) (by rfl))
    refine srd1 6 (some 21) rfl (fun K hK=>?_)
    go_simp
    go_at_call 79
    refine(HCl.out _ hHeld.out.b).mono ?_;rintro e w5 ⟨rfl,b5⟩;have hs:=zH (hHeld.out.call b5);clear b5
    refine hK.out _ _ hs (fun hHeld=>?_)
    clear hK K
    try simp only[ap1,ap2,ap3,ap4,ap5]
    refine stk 7 22 rfl ?_
    refine stk 8 23 rfl ?_
    refine stk 9 24 rfl ?_
    refine stk 10 25 rfl ?_ (fun w hSw=>kob hSw 0 _ (by rfl) (by rfl) (by rfl))
    refine srd1 11 (some 26) rfl (fun K hK=>?_)
    go_simp
    go_at_call 80
    refine(HSo.out _ hHeld.out.b).mono ?_;rintro e w5 ⟨rfl,b5⟩;have hs:=zH (hHeld.out.call b5);clear b5
    refine hK.out _ _ hs (fun hHeld=>?_)
    clear hK K
    try simp only[ap1,ap2,ap3,ap4,ap5]
    refine stk 12 27 rfl ?_
    refine stk 13 28 rfl ?_
    refine stk 14 29 rfl ?_
    refine stu 15 30 rfl ?_
    refine stu 16 31 rfl ?_
    refine stu 17 32 rfl ?_
    refine stu 18 33 rfl ?_
    refine stu 19 34 rfl ?_
    refine stu 20 35 rfl ?_
    refine stu 21 36 rfl ?_
    refine stu 22 37 rfl ?_
    refine stu 23 38 rfl ?_
    refine stu 24 39 rfl ?_
    refine stu 25 40 rfl ?_
    refine stu 26 41 rfl ?_
    refine stu 27 42 rfl ?_
    refine stk 28 43 rfl ?_
    refine wpAnyH_done (by kernel_rfl) ?_ _
    go_wp2_with fail
    go_ret
    exact⟨by rw[HR.out]<;>rfl,hHeld.out.b⟩
   | true=>
   rcases Nat.eq_zero_or_pos k with rfl|hpos
   ·clear HPrev
    refine wp_region_held_drew (S:=(fun W=>Hid (Kn w.heap.size w W [(g2,63,obA x)] []))) (by kernel_rfl) ?_ (fun hHeld=>?_)
    ·(try dsimp only);exact zH HK.out.drew
    refine stk 0 15 rfl ?_
    refine stk 1 16 rfl ?_ (fun w hSw=>kob_n hSw 0 _ (by rfl) (by rfl) (by rfl))
    refine srd1 2 (some 17) rfl (fun K hK=>?_)
    go_simp
    go_at_call 78
    refine(HNm.out _).mono ?_;rintro e w5 ⟨rfl,b5⟩;have hs:=zH (hHeld.out.call b5);clear b5
    refine hK.out _ _ hs (fun hHeld=>?_)
    clear hK K
    try simp only[ap1,ap2,ap3,ap4,ap5]
    refine stk 3 18 rfl ?_
    refine stk 4 19 rfl ?_
    refine stk 5 20 rfl ?_ (fun w hSw=>kob hSw 0 _ (by rfl) (by rfl) (by rfl))
    refine srd1 6 (some 21) rfl (fun K hK=>?_)
    go_simp
    go_at_call 79
    refine(HCl.out _ hHeld.out.b).mono ?_;rintro e w5 ⟨rfl,b5⟩;have hs:=zH (hHeld.out.call b5);clear b5
    refine hK.out _ _ hs (fun hHeld=>?_)
    clear hK K
    try simp only[ap1,ap2,ap3,ap4,ap5]
    refine stk 7 22 rfl ?_
    refine stk 8 23 rfl ?_
    refine stk 9 24 rfl ?_
    refine stk 10 25 rfl ?_ (fun w hSw=>kob hSw 0 _ (by rfl) (by rfl) (by rfl))
    refine srd1 11 (some 26) rfl (fun K hK=>?_)
    go_simp
    go_at_call 80
    refine(HSo.out _ hHeld.out.b).mono ?_;rintro e w5 ⟨rfl,b5⟩;have hs:=zH (hHeld.out.call b5);clear b5
    refine hK.out _ _ hs (fun hHeld=>?_)
    clear hK K
    try simp only[ap1,ap2,ap3,ap4,ap5]
    refine stk 12 27 rfl ?_
    refine stk 13 28 rfl ?_
    refine stk 14 29 rfl ?_
    refine stk 15 30 rfl ?_
    refine stk 16 31 rfl ?_
    refine stk 17 32 rfl ?_
    refine stu 18 33 rfl ?_
    refine stu 19 34 rfl ?_
    refine stu 20 35 rfl ?_
    refine stu 21 36 rfl ?_
    refine stu 22 37 rfl ?_
    refine stu 23 38 rfl ?_
    refine stu 24 39 rfl ?_
    refine stu 25 40 rfl ?_
    refine stu 26 41 rfl ?_
    refine stk 27 42 rfl ?_
    refine stk 28 43 rfl ?_
    refine wpAnyH_done (by kernel_rfl) ?_ _
    go_wp2_with fail
    exact⟨⟨1,by omega,by go_num,zH (fun i hi=>by
     obtain rfl:i=0:=by omega
     exact HIf.out.2 ⟨rfl,fun j y h _=>by omega⟩),zH (hHeld.out.takeL 0)⟩,by simp[intOf];omega⟩
   ·obtain⟨j,rfl⟩:∃j,k=j+1:=⟨k-1,by omega⟩
    clear hpos
    obtain⟨y,hy,hyc⟩:=HPrev.out j rfl
    have HY:=zH hyc
    have HYl:=zH hy
    clear hy hyc HPrev
    have hj:j<n:=by omega
    have hj2:j<9223372036854775807:=by omega
    have hj3:((j+1:Nat):Int) > 0:=by omega
    cases hlt2:Dct.lt y.v.name x.v.name with
    | true=>
     have hb:(!Dct.lt y.v.name x.v.name)=false:=by rw[hlt2];rfl
     refine wp_region_held_drew (S:=(fun W=>Hid (Kn w.heap.size w W [(g2,63,obA x)] []))) (by kernel_rfl) ?_ (fun hHeld=>?_)
     ·(try dsimp only);exact zH HK.out.drew
     refine stk 0 15 rfl ?_
     refine stk 1 16 rfl ?_ (fun w hSw=>kob_n hSw 0 _ (by rfl) (by rfl) (by rfl))
     refine srd1 2 (some 17) rfl (fun K hK=>?_)
     go_simp
     go_at_call 78
     refine(HNm.out _).mono ?_;rintro e w5 ⟨rfl,b5⟩;have hs:=zH (hHeld.out.call b5);clear b5
     refine hK.out _ _ hs (fun hHeld=>?_)
     clear hK K
     try simp only[ap1,ap2,ap3,ap4,ap5]
     refine stk 3 18 rfl ?_
     refine stk 4 19 rfl ?_
     refine stk 5 20 rfl ?_ (fun w hSw=>kob hSw 0 _ (by rfl) (by rfl) (by rfl))
     refine srd1 6 (some 21) rfl (fun K hK=>?_)
     go_simp
     go_at_call 79
     refine(HCl.out _ hHeld.out.b).mono ?_;rintro e w5 ⟨rfl,b5⟩;have hs:=zH (hHeld.out.call b5);clear b5
     refine hK.out _ _ hs (fun hHeld=>?_)
     clear hK K
     try simp only[ap1,ap2,ap3,ap4,ap5]
     refine stk 7 22 rfl ?_
     refine stk 8 23 rfl ?_
     refine stk 9 24 rfl ?_
     refine stk 10 25 rfl ?_ (fun w hSw=>kob hSw 0 _ (by rfl) (by rfl) (by rfl))
     refine srd1 11 (some 26) rfl (fun K hK=>?_)
     go_simp
     go_at_call 80
     refine(HSo.out _ hHeld.out.b).mono ?_;rintro e w5 ⟨rfl,b5⟩;have hs:=zH (hHeld.out.call b5);clear b5
     refine hK.out _ _ hs (fun hHeld=>?_)
     clear hK K
     try simp only[ap1,ap2,ap3,ap4,ap5]
     refine stk 12 27 rfl ?_
     refine stk 13 28 rfl ?_
     refine stk 14 29 rfl ?_
     refine stk 15 30 rfl ?_
     refine stk 16 31 rfl ?_
     refine stk 17 32 rfl ?_
     refine stk 18 33 rfl ?_
     refine stk 19 34 rfl ?_ (fun w hSw=>kob_n hSw 0 _ (by rfl) (by rfl) (by rfl))
     refine stk 20 35 rfl ?_
     refine stk 21 36 rfl ?_
     refine stk 22 37 rfl ?_ (fun w hSw=>exec_sub1 (j:=j) _ (by rfl) (by rfl) hj2)
     refine stk 23 38 rfl ?_ (fun w hSw=>exec_ixo (i:=j) _ _ (by rfl) (by rfl) (by rfl) hj)
     refine stk 24 39 rfl ?_
     refine stk 25 40 rfl ?_ (fun w hSw=>exec_obn (off:=o+j*11) _ (by rfl) (by rfl) (HY.out _ hSw.out.b))
     refine stk 26 41 rfl ?_ (fun w hSw=>exec_sle _ _ (by rfl) (by rfl) (by rfl) hb)
     refine stk 27 42 rfl ?_
     refine stk 28 43 rfl ?_
     refine wpAnyH_done (by kernel_rfl) ?_ _
     go_wp2_with fail
     exact⟨⟨j+2,by omega,by go_num,zH (fun i hi=>by
      by_cases hij:i=j+1
      ·subst hij
       refine HIf.out.2 ⟨rfl,fun j' y' h h'=>?_⟩
       obtain rfl:j=j':=by omega
       rw[HYl.out] at h'
       injection h' with h'
       subst h'
       exact hlt2
      ·exact HGo.out i (by omega)),zH (hHeld.out.takeL 0)⟩,by simp[intOf];omega⟩
    | false=>
     have hb:(!Dct.lt y.v.name x.v.name)=true:=by rw[hlt2];rfl
     have HR:Hid (r=false):=zH (HNo.out _ hlt fun h=>by
      have:=(HIf.out.1 h).2 j y.v rfl HYl.out
      rw[hlt2] at this;cases this)
     refine wp_region_held_drew (S:=(fun W=>Hid (Kn w.heap.size w W [(g2,63,obA x)] []))) (by kernel_rfl) ?_ (fun hHeld=>?_)
     ·(try dsimp only);exact zH HK.out.drew
     refine stk 0 15 rfl ?_
     refine stk 1 16 rfl ?_ (fun w hSw=>kob_n hSw 0 _ (by rfl) (by rfl) (by rfl))
     refine srd1 2 (some 17) rfl (fun K hK=>?_)
     go_simp
     go_at_call 78
     refine(HNm.out _).mono ?_;rintro e w5 ⟨rfl,b5⟩;have hs:=zH (hHeld.out.call b5);clear b5
     refine hK.out _ _ hs (fun hHeld=>?_)
     clear hK K
     try simp only[ap1,ap2,ap3,ap4,ap5]
     refine stk 3 18 rfl ?_
     refine stk 4 19 rfl ?_
     refine stk 5 20 rfl ?_ (fun w hSw=>kob hSw 0 _ (by rfl) (by rfl) (by rfl))
     refine srd1 6 (some 21) rfl (fun K hK=>?_)
     go_simp
     go_at_call 79
     refine(HCl.out _ hHeld.out.b).mono ?_;rintro e w5 ⟨rfl,b5⟩;have hs:=zH (hHeld.out.call b5);clear b5
     refine hK.out _ _ hs (fun hHeld=>?_)
     clear hK K
     try simp only[ap1,ap2,ap3,ap4,ap5]
     refine stk 7 22 rfl ?_
     refine stk 8 23 rfl ?_
     refine stk 9 24 rfl ?_
     refine stk 10 25 rfl ?_ (fun w hSw=>kob hSw 0 _ (by rfl) (by rfl) (by rfl))
     refine srd1 11 (some 26) rfl (fun K hK=>?_)
     go_simp
     go_at_call 80
     refine(HSo.out _ hHeld.out.b).mono ?_;rintro e w5 ⟨rfl,b5⟩;have hs:=zH (hHeld.out.call b5);clear b5
     refine hK.out _ _ hs (fun hHeld=>?_)
     clear hK K
     try simp only[ap1,ap2,ap3,ap4,ap5]
     refine stk 12 27 rfl ?_
     refine stk 13 28 rfl ?_
     refine stk 14 29 rfl ?_
     refine stk 15 30 rfl ?_
     refine stk 16 31 rfl ?_
     refine stk 17 32 rfl ?_
     refine stk 18 33 rfl ?_
     refine stk 19 34 rfl ?_ (fun w hSw=>kob_n hSw 0 _ (by rfl) (by rfl) (by rfl))
     refine stk 20 35 rfl ?_
     refine stk 21 36 rfl ?_
     refine stk 22 37 rfl ?_ (fun w hSw=>exec_sub1 (j:=j) _ (by rfl) (by rfl) hj2)
     refine stk 23 38 rfl ?_ (fun w hSw=>exec_ixo (i:=j) _ _ (by rfl) (by rfl) (by rfl) hj)
     refine stk 24 39 rfl ?_
     refine stk 25 40 rfl ?_ (fun w hSw=>exec_obn (off:=o+j*11) _ (by rfl) (by rfl) (HY.out _ hSw.out.b))
     refine stk 26 41 rfl ?_ (fun w hSw=>exec_sle _ _ (by rfl) (by rfl) (by rfl) hb)
     refine stk 27 42 rfl ?_
     refine stk 28 43 rfl ?_
     refine wpAnyH_done (by kernel_rfl) ?_ _
     go_wp2_with fail
     go_ret
     exact⟨by rw[HR.out]<;>rfl,hHeld.out.b⟩
  ·obtain rfl:k=n:=by omega
   have HR:Hid (r=true):=zH (HYes.out HGo.out)
   go_wp2_with fail
   go_ret
   exact⟨by rw[HR.out]<;>rfl,HK.out.b⟩
end
section
open Go.RowKit
def frO(c:Cmd.C):Oh:=⟨Sto.fresh c,none,0,0,none,0,0,none,0,0⟩
theorem In.fr(w:World)(c:Cmd.C):In w (frO c):=⟨Sl.none w,Sls.none w,Sls.none w,Mt.fit_zero,by show(0:Int)≤_;decide⟩
theorem Obs.one{b:Nat}{w:World}{A:Option Addr}{c:Nat}{y:Oh}(ho:obLay.Own b w (.slice A 1 c) [y])(hi:In w y):Obs w A 1 c [y]:=
 ⟨Sls.own ho ⟨fun x hx=>trivial,by show 1*144≤_;decide⟩,fun x hx=>by rw[List.mem_singleton] at hx;subst hx;exact hi⟩
end
section
open Go.RowKit
namespace Sto
end Sto
section
variable {b0:Nat}{w0 w:World}{L:List (Nat×TypeId×Array Value)}{R:List RowE}
theorem OwnOr.kn{w':World}{A A':Option Addr}{n c n' c':Nat}{l r:List Rf}(h:OwnOr rfLay w.heap.size w' A n c l A' n' c' r)(hb:Below w.heap.size w w')(hf:Fits rfLay rF r):∃Rn,Kn w.heap.size w w' [] Rn∧Hid (∀(b:Nat) (W0 W:World) L R,Kn b W0 W L R→(∀z∈Rn,z∈R)→Sls rfLay rF W A n c l→Sls rfLay rF W A' n' c' r):=by
 rcases h with h|⟨rfl,rfl,rfl,rfl⟩
 ·exact⟨_,(Kn.start w).called hb h,zH fun _ _ _ _ _ K hm _=>Sls.own (K.mem (hm _ (List.mem_cons_self ..))) hf⟩
 ·exact⟨_,(Kn.start w).call hb,zH fun _ _ _ _ _ _ _ h=>h⟩
end
end
end Go.Proofs.YtieoeendnccafaaGreat
