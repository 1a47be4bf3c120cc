/- What the document's Right returns: whether objects may be. No condition but those named. -/
import Derived.Test.YtieoeendnccafaaGreatMTK
import Derived.Test.YtieoeendnccafaaGreatMAL
import Derived.Test.YtieoeendnccafaaGreatMAI
import Derived.Test.YtieoeendnccafaaGreatMAJ
import Derived.Test.YtieoeendnccafaaGreatMBC
import Derived.Test.YtieoeendnccafaaGreatMAM
set_option linter.unusedSimpArgs false
set_option linter.unusedVariables false
set_option maxRecDepth 100000
set_option maxHeartbeats 25600000
namespace Go.Proofs.YtieoeendnccafaaGreat
section
open Go.RowKit
theorem rright_any(A:Option Addr)(c n:Nat)(l:List Dct.Pr)(w:World)(hs:Sl w A n c l):
  Calls Tryz.prog 149 #[.slice A n c] w (IsB (decide (Dct.Right l)) w):=by
 by_cases hn:8<n
 ·have hd:decide (Dct.Right l)=false:=decide_eq_false fun h=>by have:=h.len;rw[hs.len] at this;omega
  rw[hd]
  have hn2:8<(n:Int):=by omega
  clear hs hd
  go_enter Tryz.func149,Tryz.ntmps149
  go_wp2_with fail
  go_ret
  exact⟨rfl,Below.refl _ w⟩
 have HS:=zH hs
 obtain⟨hno,hyes⟩:=right_told hs.len (by omega:n≤8)
 have HNo:=zH hno
 have HYes:=zH hyes
 have HG:Hid (∀k,k<n→∃x,l[k]?=some x∧x.val.f<18446744073709551616):=zH fun k hk=>by
  obtain⟨x,hx⟩:=Lay.get_of (l:=l) (k:=k) (by rw[hs.len];exact hk)
  exact⟨x,hx,hs.fs x (List.mem_of_getElem? hx)⟩
 clear hs hno hyes
 generalize decide (Dct.Right l)=r at *
 have hn2:¬8<(n:Int):=by omega
 have HK:=zH (Kn.start w)
 go_enter Tryz.func149,Tryz.ntmps149
 go_wp2_with fail
 go_loopw [3] (fun vi wr=>∃k:Nat,k≤n∧vi=.int .i64 k∧Hid (∀i,i<k→Dct.Good l i)∧Hid (Kn w.heap.size w wr [] [])) (fun vi _=>n-(intOf vi).toNat)
 case atStart=>exact⟨0,Nat.zero_le _,rfl,zH (fun i hi=>by omega),HK⟩
 case round=>
  clear HK
  obtain⟨k,hk,rfl,HGo,HK⟩:=hrel
  by_cases hlt:k<n
  ·obtain⟨x,hx,hf⟩:=HG.out k hlt
   obtain⟨b,o,rfl,hat⟩:=HS.out.at (Nat.lt_of_le_of_lt (Nat.zero_le _) hlt)
   have HX:=zH (fun W hW=>hat W hW k x hx)
   have HPrev:Hid (∀j,k=j+1→∃y,l[j]?=some y∧∀W,Below w.heap.size w W→∀i v,(prL y)[i]?=some v→W.cell? ⟨b,o+j*5+i,none⟩=some v):=zH fun j hj=>by
    obtain⟨y,hy,_⟩:=HG.out j (by omega)
    exact⟨y,hy,fun W hW=>hat W hW j y hy⟩
   have HCk:=zH (fun W=>rcheck_any x.val W hf)
   have HIf:Hid (Dct.Good l k↔(Dct.pchk x.key x.val=0∧∀j y,k=j+1→l[j]?=some y→Dct.lt y.key x.key=true)):=zH ⟨fun h=>h x hx,fun h x' hx'=>by rw[hx] at hx';injection hx' with hx';subst hx';exact h⟩
   have HPc:Hid (Dct.pchk x.key x.val=0↔¬64<x.key.size∧¬x.val.k=0∧Val.chk x.val=0):=zH (by
    unfold Dct.pchk
    by_cases h1:x.val.k=0<;>by_cases h2:64<x.key.size<;>simp[h1,h2])
   clear hat hf hx
   obtain⟨key,vk,vn,vf,vs⟩:=x
   unfold vv IsE at HCk
   simp only at HCk HIf HPc
   generalize Dct.pchk key ⟨vk,vn,vf,vs⟩=z at *
   generalize Val.chk ⟨vk,vn,vf,vs⟩=zc at *
   have hk1:(0:Int)≤(k:Int):=by omega
   have hk2:(k:Int)<(n:Int):=by omega
   go_wp2_with fail
   by_cases h64:64<key.size
   ·have HR:Hid (r=false):=zH (HNo.out k hlt fun h=>(HPc.out.1 (HIf.out.1 h).1).1 h64)
    have h642:64<(key.size:Int):=by omega
    clear HIf HPrev HCk HPc
    refine wp_region_held_drew (S:=(fun W=>Hid (Kn w.heap.size w W [] []))) (by kernel_rfl) ?_ (fun hHeld=>?_)
    ·(try dsimp only);exact zH HK.out.drew
    refine stk 0 13 rfl ?_
    refine stk 1 14 rfl ?_
    refine stk 2 15 rfl ?_ (fun w hSw=>exec_ix (i:=k) _ _ (by rfl) (by rfl) (by rfl) hlt)
    refine stk 3 16 rfl ?_
    refine stk 4 17 rfl ?_ (fun w hSw=>exec_lpk (off:=o+(k)*5) _ (by rfl) (by rfl) (HX.out _ hSw.out.b))
    refine stk 5 18 rfl ?_
    refine stk 6 19 rfl ?_
    refine stk 7 20 rfl ?_
    refine stu 8 21 rfl ?_
    refine stu 9 22 rfl ?_
    refine stu 10 23 rfl ?_
    refine stu 11 24 rfl ?_
    refine stu 12 25 rfl ?_
    refine stu 13 26 rfl ?_
    refine stu 14 27 rfl ?_
    refine stk 15 28 rfl ?_
    refine stk 16 29 rfl ?_
    refine stu 17 30 rfl ?_
    refine stu 18 31 rfl ?_
    refine stu 19 32 rfl ?_
    refine stu 20 33 rfl ?_
    refine stu 21 34 rfl ?_
    refine stu 22 35 rfl ?_
    refine stu 23 36 rfl ?_
    refine stk 24 37 rfl ?_
    refine stk 25 38 rfl ?_
    refine stu 26 39 rfl ?_
    refine stu 27 40 rfl ?_
    refine stu 28 41 rfl ?_
    refine stu 29 42 rfl ?_
    refine stu 30 43 rfl ?_
    refine stu 31 44 rfl ?_
    refine stu 32 45 rfl ?_
    refine stu 33 46 rfl ?_
    refine stu 34 47 rfl ?_
    refine stu 35 48 rfl ?_
    refine stu 36 49 rfl ?_
    refine stu 37 50 rfl ?_
    refine stu 38 51 rfl ?_
    refine stu 39 52 rfl ?_
    refine stu 40 53 rfl ?_
    refine stu 41 54 rfl ?_
    refine stk 42 55 rfl ?_
    refine wpAnyH_done (by kernel_rfl) ?_ _
    go_wp2_with fail
    go_ret
    exact⟨by rw[HR.out]<;>rfl,hHeld.out.b⟩
   have h642:¬64<(key.size:Int):=by omega
   by_cases hk0:vk=0
   ·have HR:Hid (r=false):=zH (HNo.out k hlt fun h=>(HPc.out.1 (HIf.out.1 h).1).2.1 hk0)
    clear HIf HPrev HCk HPc
    subst hk0
    refine wp_region_held_drew (S:=(fun W=>Hid (Kn w.heap.size w W [] []))) (by kernel_rfl) ?_ (fun hHeld=>?_)
    ·(try dsimp only);exact zH HK.out.drew
    refine stk 0 13 rfl ?_
    refine stk 1 14 rfl ?_
    refine stk 2 15 rfl ?_ (fun w hSw=>exec_ix (i:=k) _ _ (by rfl) (by rfl) (by rfl) hlt)
    refine stk 3 16 rfl ?_
    refine stk 4 17 rfl ?_ (fun w hSw=>exec_lpk (off:=o+(k)*5) _ (by rfl) (by rfl) (HX.out _ hSw.out.b))
    refine stk 5 18 rfl ?_
    refine stk 6 19 rfl ?_
    refine stk 7 20 rfl ?_
    refine stk 8 21 rfl ?_
    refine stk 9 22 rfl ?_
    refine stk 10 23 rfl ?_ (fun w hSw=>exec_ix (i:=k) _ _ (by rfl) (by rfl) (by rfl) hlt)
    refine stk 11 24 rfl ?_
    refine stk 12 25 rfl ?_
    refine stk 13 26 rfl ?_ (fun w hSw=>exec_lpn (off:=o+(k)*5) _ (by rfl) (by rfl) rfl (HX.out _ hSw.out.b))
    refine stk 14 27 rfl ?_
    refine stk 15 28 rfl ?_
    refine stk 16 29 rfl ?_
    refine stu 17 30 rfl ?_
    refine stu 18 31 rfl ?_
    refine stu 19 32 rfl ?_
    refine stu 20 33 rfl ?_
    refine stu 21 34 rfl ?_
    refine stu 22 35 rfl ?_
    refine stu 23 36 rfl ?_
    refine stk 24 37 rfl ?_
    refine stk 25 38 rfl ?_
    refine stu 26 39 rfl ?_
    refine stu 27 40 rfl ?_
    refine stu 28 41 rfl ?_
    refine stu 29 42 rfl ?_
    refine stu 30 43 rfl ?_
    refine stu 31 44 rfl ?_
    refine stu 32 45 rfl ?_
    refine stu 33 46 rfl ?_
    refine stu 34 47 rfl ?_
    refine stu 35 48 rfl ?_
    refine stu 36 49 rfl ?_
    refine stu 37 50 rfl ?_
    refine stu 38 51 rfl ?_
    refine stu 39 52 rfl ?_
    refine stu 40 53 rfl ?_
    refine stu 41 54 rfl ?_
    refine stk 42 55 rfl ?_
    refine wpAnyH_done (by kernel_rfl) ?_ _
    go_wp2_with fail
    go_ret
    exact⟨by rw[HR.out]<;>rfl,hHeld.out.b⟩
   have hk02:(vk==0)=false:=by simpa using hk0
   by_cases hz:zc=0
   case neg=>
    have HR:Hid (r=false):=zH (HNo.out k hlt fun h=>hz (HPc.out.1 (HIf.out.1 h).1).2.2)
    have hz2:(zc != 0)=true:=by simpa using hz
    clear HIf HPrev HPc
    refine wp_region_held_drew (S:=(fun W=>Hid (Kn w.heap.size w W [] []))) (by kernel_rfl) ?_ (fun hHeld=>?_)
    ·(try dsimp only);exact zH HK.out.drew
    refine stk 0 13 rfl ?_
    refine stk 1 14 rfl ?_
    refine stk 2 15 rfl ?_ (fun w hSw=>exec_ix (i:=k) _ _ (by rfl) (by rfl) (by rfl) hlt)
    refine stk 3 16 rfl ?_
    refine stk 4 17 rfl ?_ (fun w hSw=>exec_lpk (off:=o+(k)*5) _ (by rfl) (by rfl) (HX.out _ hSw.out.b))
    refine stk 5 18 rfl ?_
    refine stk 6 19 rfl ?_
    refine stk 7 20 rfl ?_
    refine stk 8 21 rfl ?_
    refine stk 9 22 rfl ?_
    refine stk 10 23 rfl ?_ (fun w hSw=>exec_ix (i:=k) _ _ (by rfl) (by rfl) (by rfl) hlt)
    refine stk 11 24 rfl ?_
    refine stk 12 25 rfl ?_
    refine stk 13 26 rfl ?_ (fun w hSw=>exec_lpn (off:=o+(k)*5) _ (by rfl) (by rfl) rfl (HX.out _ hSw.out.b))
    refine stk 14 27 rfl ?_
    refine stk 15 28 rfl ?_
    refine stk 16 29 rfl ?_
    refine stk 17 30 rfl ?_
    refine stk 18 31 rfl ?_
    refine stk 19 32 rfl ?_ (fun w hSw=>exec_ix (i:=k) _ _ (by rfl) (by rfl) (by rfl) hlt)
    refine stk 20 33 rfl ?_
    refine stk 21 34 rfl ?_ (fun w hSw=>exec_lpv (off:=o+(k)*5) _ (by rfl) (by rfl) rfl (HX.out _ hSw.out.b))
    refine srd1 22 (some 35) rfl (fun K hK=>?_)
    go_simp
    go_at_call 127
    refine(HCk.out _).mono ?_;rintro e w5 ⟨rfl,b5⟩;have hs:=zH (hHeld.out.call b5);clear b5
    refine hK.out _ _ hs (fun hHeld=>?_)
    clear hK K
    try simp only[ap1,ap2,ap3,ap4,ap5]
    refine stk 23 36 rfl ?_
    refine stk 24 37 rfl ?_
    refine stk 25 38 rfl ?_
    refine stu 26 39 rfl ?_
    refine stu 27 40 rfl ?_
    refine stu 28 41 rfl ?_
    refine stu 29 42 rfl ?_
    refine stu 30 43 rfl ?_
    refine stu 31 44 rfl ?_
    refine stu 32 45 rfl ?_
    refine stu 33 46 rfl ?_
    refine stu 34 47 rfl ?_
    refine stu 35 48 rfl ?_
    refine stu 36 49 rfl ?_
    refine stu 37 50 rfl ?_
    refine stu 38 51 rfl ?_
    refine stu 39 52 rfl ?_
    refine stu 40 53 rfl ?_
    refine stu 41 54 rfl ?_
    refine stk 42 55 rfl ?_
    refine wpAnyH_done (by kernel_rfl) ?_ _
    go_wp2_with fail
    go_ret
    exact⟨by rw[HR.out]<;>rfl,hHeld.out.b⟩
   case pos=>
   subst hz
   have HP:=zH (HPc.out.2 ⟨h64,hk0,rfl⟩)
   clear HPc
   rcases Nat.eq_zero_or_pos k with rfl|hpos
   ·clear HPrev
    refine wp_region_held_drew (S:=(fun W=>Hid (Kn w.heap.size w W [] []))) (by kernel_rfl) ?_ (fun hHeld=>?_)
    ·(try dsimp only);exact zH HK.out.drew
    refine stk 0 13 rfl ?_
    refine stk 1 14 rfl ?_
    refine stk 2 15 rfl ?_ (fun w hSw=>exec_ix (i:=0) _ _ (by rfl) (by rfl) (by rfl) hlt)
    refine stk 3 16 rfl ?_
    refine stk 4 17 rfl ?_ (fun w hSw=>exec_lpk (off:=o+(0)*5) _ (by rfl) (by rfl) (HX.out _ hSw.out.b))
    refine stk 5 18 rfl ?_
    refine stk 6 19 rfl ?_
    refine stk 7 20 rfl ?_
    refine stk 8 21 rfl ?_
    refine stk 9 22 rfl ?_
    refine stk 10 23 rfl ?_ (fun w hSw=>exec_ix (i:=0) _ _ (by rfl) (by rfl) (by rfl) hlt)
    refine stk 11 24 rfl ?_
    refine stk 12 25 rfl ?_
    refine stk 13 26 rfl ?_ (fun w hSw=>exec_lpn (off:=o+(0)*5) _ (by rfl) (by rfl) rfl (HX.out _ hSw.out.b))
    refine stk 14 27 rfl ?_
    refine stk 15 28 rfl ?_
    refine stk 16 29 rfl ?_
    refine stk 17 30 rfl ?_
    refine stk 18 31 rfl ?_
    refine stk 19 32 rfl ?_ (fun w hSw=>exec_ix (i:=0) _ _ (by rfl) (by rfl) (by rfl) hlt)
    refine stk 20 33 rfl ?_
    refine stk 21 34 rfl ?_ (fun w hSw=>exec_lpv (off:=o+(0)*5) _ (by rfl) (by rfl) rfl (HX.out _ hSw.out.b))
    refine srd1 22 (some 35) rfl (fun K hK=>?_)
    go_simp
    go_at_call 127
    refine(HCk.out _).mono ?_;rintro e w5 ⟨rfl,b5⟩;have hs:=zH (hHeld.out.call b5);clear b5
    refine hK.out _ _ hs (fun hHeld=>?_)
    clear hK K
    try simp only[ap1,ap2,ap3,ap4,ap5]
    refine stk 23 36 rfl ?_
    refine stk 24 37 rfl ?_
    refine stk 25 38 rfl ?_
    refine stk 26 39 rfl ?_
    refine stk 27 40 rfl ?_
    refine stk 28 41 rfl ?_
    refine stu 29 42 rfl ?_
    refine stu 30 43 rfl ?_
    refine stu 31 44 rfl ?_
    refine stu 32 45 rfl ?_
    refine stu 33 46 rfl ?_
    refine stu 34 47 rfl ?_
    refine stu 35 48 rfl ?_
    refine stu 36 49 rfl ?_
    refine stu 37 50 rfl ?_
    refine stu 38 51 rfl ?_
    refine stu 39 52 rfl ?_
    refine stu 40 53 rfl ?_
    refine stk 41 54 rfl ?_
    refine stk 42 55 rfl ?_
    refine wpAnyH_done (by kernel_rfl) ?_ _
    go_wp2_with fail
    exact⟨⟨1,by omega,by go_num,zH (fun i hi=>by
     obtain rfl:i=0:=by omega
     exact HIf.out.2 ⟨HP.out,fun j y h _=>by omega⟩),hHeld⟩,by simp[intOf];omega⟩
   ·obtain⟨j,rfl⟩:∃j,k=j+1:=⟨k-1,by omega⟩
    clear hpos
    obtain⟨y,hy,hyc⟩:=HPrev.out j rfl
    have HY:=zH hyc
    have HYl:=zH hy
    clear hy hyc HPrev
    have hj:j<n:=by omega
    have hj2:j<9223372036854775807:=by omega
    have hj3:((j+1:Nat):Int) > 0:=by omega
    cases hlt2:Dct.lt y.key key with
    | true=>
     have hb:(!Dct.lt y.key key)=false:=by rw[hlt2];rfl
     refine wp_region_held_drew (S:=(fun W=>Hid (Kn w.heap.size w W [] []))) (by kernel_rfl) ?_ (fun hHeld=>?_)
     ·(try dsimp only);exact zH HK.out.drew
     refine stk 0 13 rfl ?_
     refine stk 1 14 rfl ?_
     refine stk 2 15 rfl ?_ (fun w hSw=>exec_ix (i:=j+1) _ _ (by rfl) (by rfl) (by rfl) hlt)
     refine stk 3 16 rfl ?_
     refine stk 4 17 rfl ?_ (fun w hSw=>exec_lpk (off:=o+(j+1)*5) _ (by rfl) (by rfl) (HX.out _ hSw.out.b))
     refine stk 5 18 rfl ?_
     refine stk 6 19 rfl ?_
     refine stk 7 20 rfl ?_
     refine stk 8 21 rfl ?_
     refine stk 9 22 rfl ?_
     refine stk 10 23 rfl ?_ (fun w hSw=>exec_ix (i:=j+1) _ _ (by rfl) (by rfl) (by rfl) hlt)
     refine stk 11 24 rfl ?_
     refine stk 12 25 rfl ?_
     refine stk 13 26 rfl ?_ (fun w hSw=>exec_lpn (off:=o+(j+1)*5) _ (by rfl) (by rfl) rfl (HX.out _ hSw.out.b))
     refine stk 14 27 rfl ?_
     refine stk 15 28 rfl ?_
     refine stk 16 29 rfl ?_
     refine stk 17 30 rfl ?_
     refine stk 18 31 rfl ?_
     refine stk 19 32 rfl ?_ (fun w hSw=>exec_ix (i:=j+1) _ _ (by rfl) (by rfl) (by rfl) hlt)
     refine stk 20 33 rfl ?_
     refine stk 21 34 rfl ?_ (fun w hSw=>exec_lpv (off:=o+(j+1)*5) _ (by rfl) (by rfl) rfl (HX.out _ hSw.out.b))
     refine srd1 22 (some 35) rfl (fun K hK=>?_)
     go_simp
     go_at_call 127
     refine(HCk.out _).mono ?_;rintro e w5 ⟨rfl,b5⟩;have hs:=zH (hHeld.out.call b5);clear b5
     refine hK.out _ _ hs (fun hHeld=>?_)
     clear hK K
     try simp only[ap1,ap2,ap3,ap4,ap5]
     refine stk 23 36 rfl ?_
     refine stk 24 37 rfl ?_
     refine stk 25 38 rfl ?_
     refine stk 26 39 rfl ?_
     refine stk 27 40 rfl ?_
     refine stk 28 41 rfl ?_
     refine stk 29 42 rfl ?_
     refine stk 30 43 rfl ?_
     refine stk 31 44 rfl ?_ (fun w hSw=>exec_sub1 (j:=j) _ (by rfl) (by rfl) hj2)
     refine stk 32 45 rfl ?_ (fun w hSw=>exec_ix (i:=j) _ _ (by rfl) (by rfl) (by rfl) hj)
     refine stk 33 46 rfl ?_
     refine stk 34 47 rfl ?_ (fun w hSw=>exec_lpk (off:=o+j*5) _ (by rfl) (by rfl) (HY.out _ hSw.out.b))
     refine stk 35 48 rfl ?_
     refine stk 36 49 rfl ?_
     refine stk 37 50 rfl ?_ (fun w hSw=>exec_ix (i:=j+1) _ _ (by rfl) (by rfl) (by rfl) hlt)
     refine stk 38 51 rfl ?_
     refine stk 39 52 rfl ?_ (fun w hSw=>exec_lpk (off:=o+(j+1)*5) _ (by rfl) (by rfl) (HX.out _ hSw.out.b))
     refine stk 40 53 rfl ?_ (fun w hSw=>exec_sge _ _ (by rfl) (by rfl) (by rfl) hb)
     refine stk 41 54 rfl ?_
     refine stk 42 55 rfl ?_
     refine wpAnyH_done (by kernel_rfl) ?_ _
     go_wp2_with fail
     exact⟨⟨j+2,by omega,by go_num,zH (fun i hi=>by
      by_cases hij:i=j+1
      ·subst hij
       refine HIf.out.2 ⟨HP.out,fun j' y' h h'=>?_⟩
       obtain rfl:j=j':=by omega
       rw[HYl.out] at h'
       injection h' with h'
       subst h'
       exact hlt2
      ·exact HGo.out i (by omega)),hHeld⟩,by simp[intOf];omega⟩
    | false=>
     have hb:(!Dct.lt y.key key)=true:=by rw[hlt2];rfl
     have HR:Hid (r=false):=zH (HNo.out _ hlt fun h=>by
      have:=(HIf.out.1 h).2 j y rfl HYl.out
      rw[hlt2] at this;cases this)
     refine wp_region_held_drew (S:=(fun W=>Hid (Kn w.heap.size w W [] []))) (by kernel_rfl) ?_ (fun hHeld=>?_)
     ·(try dsimp only);exact zH HK.out.drew
     refine stk 0 13 rfl ?_
     refine stk 1 14 rfl ?_
     refine stk 2 15 rfl ?_ (fun w hSw=>exec_ix (i:=j+1) _ _ (by rfl) (by rfl) (by rfl) hlt)
     refine stk 3 16 rfl ?_
     refine stk 4 17 rfl ?_ (fun w hSw=>exec_lpk (off:=o+(j+1)*5) _ (by rfl) (by rfl) (HX.out _ hSw.out.b))
     refine stk 5 18 rfl ?_
     refine stk 6 19 rfl ?_
     refine stk 7 20 rfl ?_
     refine stk 8 21 rfl ?_
     refine stk 9 22 rfl ?_
     refine stk 10 23 rfl ?_ (fun w hSw=>exec_ix (i:=j+1) _ _ (by rfl) (by rfl) (by rfl) hlt)
     refine stk 11 24 rfl ?_
     refine stk 12 25 rfl ?_
     refine stk 13 26 rfl ?_ (fun w hSw=>exec_lpn (off:=o+(j+1)*5) _ (by rfl) (by rfl) rfl (HX.out _ hSw.out.b))
     refine stk 14 27 rfl ?_
     refine stk 15 28 rfl ?_
     refine stk 16 29 rfl ?_
     refine stk 17 30 rfl ?_
     refine stk 18 31 rfl ?_
     refine stk 19 32 rfl ?_ (fun w hSw=>exec_ix (i:=j+1) _ _ (by rfl) (by rfl) (by rfl) hlt)
     refine stk 20 33 rfl ?_
     refine stk 21 34 rfl ?_ (fun w hSw=>exec_lpv (off:=o+(j+1)*5) _ (by rfl) (by rfl) rfl (HX.out _ hSw.out.b))
     refine srd1 22 (some 35) rfl (fun K hK=>?_)
     go_simp
     go_at_call 127
     refine(HCk.out _).mono ?_;rintro e w5 ⟨rfl,b5⟩;have hs:=zH (hHeld.out.call b5);clear b5
     refine hK.out _ _ hs (fun hHeld=>?_)
     clear hK K
     try simp only[ap1,ap2,ap3,ap4,ap5]
     refine stk 23 36 rfl ?_
     refine stk 24 37 rfl ?_
     refine stk 25 38 rfl ?_
     refine stk 26 39 rfl ?_
     refine stk 27 40 rfl ?_
     refine stk 28 41 rfl ?_
     refine stk 29 42 rfl ?_
     refine stk 30 43 rfl ?_
     refine stk 31 44 rfl ?_ (fun w hSw=>exec_sub1 (j:=j) _ (by rfl) (by rfl) hj2)
     refine stk 32 45 rfl ?_ (fun w hSw=>exec_ix (i:=j) _ _ (by rfl) (by rfl) (by rfl) hj)
     refine stk 33 46 rfl ?_
     refine stk 34 47 rfl ?_ (fun w hSw=>exec_lpk (off:=o+j*5) _ (by rfl) (by rfl) (HY.out _ hSw.out.b))
     refine stk 35 48 rfl ?_
     refine stk 36 49 rfl ?_
     refine stk 37 50 rfl ?_ (fun w hSw=>exec_ix (i:=j+1) _ _ (by rfl) (by rfl) (by rfl) hlt)
     refine stk 38 51 rfl ?_
     refine stk 39 52 rfl ?_ (fun w hSw=>exec_lpk (off:=o+(j+1)*5) _ (by rfl) (by rfl) (HX.out _ hSw.out.b))
     refine stk 40 53 rfl ?_ (fun w hSw=>exec_sge _ _ (by rfl) (by rfl) (by rfl) hb)
     refine stk 41 54 rfl ?_
     refine stk 42 55 rfl ?_
     refine wpAnyH_done (by kernel_rfl) ?_ _
     go_wp2_with fail
     go_ret
     exact⟨by rw[HR.out]<;>rfl,hHeld.out.b⟩
  ·obtain rfl:k=n:=by omega
   have HR:Hid (r=true):=zH (HYes.out HGo.out)
   go_wp2_with fail
   go_ret
   exact⟨by rw[HR.out]<;>rfl,HK.out.b⟩
end
section
open Go.RowKit
theorem rqright_any(N:Int)(A:Option Addr)(c n:Nat)(l:List Val.V)(w:World)(hs:Sls vaLay vF w A n c l):
  Calls Tryz.prog 150 #[.int .i64 N,.slice A n c] w (IsB (decide (Que.Right N l)) w):=by
 have HK:=zH (Kn.start w)
 by_cases h1:N<1
 ·have hd:decide (Que.Right N l)=false:=decide_eq_false fun h=>by have:=h.lo;omega
  rw[hd]
  clear hs hd
  go_enter Tryz.func150,Tryz.ntmps150
  go_wp2_with fail
  go_ret
  exact⟨rfl,HK.out.b⟩
 by_cases h2:8<N
 ·have hd:decide (Que.Right N l)=false:=decide_eq_false fun h=>by have:=h.hi;omega
  rw[hd]
  clear hs hd
  go_enter Tryz.func150,Tryz.ntmps150
  go_wp2_with fail
  go_ret
  exact⟨rfl,HK.out.b⟩
 by_cases h3:N<(n:Int)
 ·have hd:decide (Que.Right N l)=false:=decide_eq_false fun h=>by have:=h.len;rw[hs.len] at this;omega
  rw[hd]
  clear hs hd
  go_enter Tryz.func150,Tryz.ntmps150
  go_wp2_with fail
  go_ret
  exact⟨rfl,HK.out.b⟩
 obtain⟨hno,hyes⟩:=Que.right_told (n:=N) (l:=l) hs.len (by omega) (by omega) (by omega)
 have HNo:=zH hno
 have HYes:=zH hyes
 have HS:=zH hs
 have hn9:n<9:=by omega
 clear hs hno hyes
 generalize decide (Que.Right N l)=r at *
 go_enter Tryz.func150,Tryz.ntmps150
 go_wp2_with fail
 go_loopw [5] (fun vi wr=>∃k:Nat,k≤n∧vi=.int .i64 k∧Hid (∀(i:Nat) v,i<k→l[i]?=some v→Que.vchk v=0)∧Hid (Kn w.heap.size w wr [] [])) (fun vi _=>n-(intOf vi).toNat)
 case atStart=>exact⟨0,Nat.zero_le _,rfl,zH (fun i v hi=>by omega),HK⟩
 case round=>
  clear HK
  obtain⟨k,hk,rfl,HGo,HK⟩:=hrel
  have hk1:(0:Int)≤(k:Int):=by omega
  by_cases hlt:k<n
  ·have hk2:(k:Int)<(n:Int):=by omega
   have hk3:k<9223372036854775807:=by omega
   obtain⟨x,hx,hf⟩:=HS.out.get hlt
   obtain⟨b,o,rfl,hat⟩:=HS.out.at (Nat.lt_of_le_of_lt (Nat.zero_le _) hlt)
   have HX:=zH (fun W hW=>hat W hW k x hx)
   have HV:=zH (fun W=>rcheck_any x W hf)
   have HN:=zH (HNo.out k x hx)
   have HGk:Hid (Que.vchk x=0→∀(i:Nat) v,i<k+1→l[i]?=some v→Que.vchk v=0):=zH fun h i v hi hv=>by
    by_cases hik:i=k
    ·subst hik;rw[hx] at hv;injection hv with hv;subst hv;exact h
    ·exact HGo.out i v (by omega) hv
   clear hat hx hf
   by_cases hkind:x.k=0
   ·have hz:¬Que.vchk x=0:=by rw[Que.vchk_none hkind];decide
    have HR:=zH (HN.out hz)
    obtain⟨vk,vn,vf,vs⟩:=x
    obtain rfl:vk=0:=hkind
    clear HV HN HGk hz
    go_wp2_with (first|refine wpList_of_exec (by rfl) (exec_lvk (off:=o+k*4) _ (by rfl) (by rfl) (HX.out _ HK.out.b)) ?_)
    go_ret
    exact⟨by rw[HR.out]<;>rfl,HK.out.b⟩
   ·rw[Que.vchk_some hkind] at HN HGk
    obtain⟨vk,vn,vf,vs⟩:=x
    have hkind2:(vk==0)=false:=by simpa using hkind
    unfold vv IsE at HV
    simp only at HV
    generalize Val.chk ⟨vk,vn,vf,vs⟩=z at *
    clear hkind
    go_wp2_with (first|refine wpList_of_exec (by rfl) (exec_lvk (off:=o+k*4) _ (by rfl) (by rfl) (HX.out _ HK.out.b)) ?_|refine wpList_of_exec (by rfl) (exec_lva (off:=o+k*4) _ (by rfl) (by rfl) (HX.out _ HK.out.b)) ?_)
    refine(HV.out _).mono ?_;rintro e w1 ⟨rfl,b1⟩
    replace HK:=hkC HK b1;clear b1
    by_cases hz:z=0
    ·subst hz
     replace HGk:=zH (HGk.out rfl)
     go_wp2_with (first|refine wpList_of_exec (by rfl) (exec_add1 (j:=k) _ (by rfl) (by rfl) hk3) ?_)
     exact⟨⟨k+1,hlt,rfl,HGk,HK⟩,by simp[intOf];omega⟩
    ·have hz2:(z != 0)=true:=by simpa using hz
     have HR:=zH (HN.out hz)
     go_wp2_with fail
     go_ret
     exact⟨by rw[HR.out]<;>rfl,HK.out.b⟩
  ·obtain rfl:k=n:=by omega
   have HR:Hid (r=true):=zH (HYes.out HGo.out)
   go_wp2_with fail
   go_ret
   exact⟨by rw[HR.out]<;>rfl,HK.out.b⟩
end
section
open Go.RowKit
theorem mrright_any(x:Mtr)(hf:Mt.Fit x)(w:World):
  Calls Tryz.prog 153 #[.agg #[.int .i64 x.n,.int .u64 (x.s:Int),.int .u64 (x.l:Int),.int .u64 (x.m:Int)]] w (IsB (decide (Mt.Ok x)) w):=by
 obtain⟨n,s,l,m⟩:=x
 obtain⟨_,f1,f2,f3⟩:=hf
 dsimp only at f1 f2 f3
 have H1:=zH (fun w=>rmake_any s w f1)
 have H2:=zH (fun w=>rmake_any l w f2)
 have H3:=zH (fun w=>rmake_any m w f3)
 have H4:=zH (fun w=>rcmp_any l m w f2 f3)
 have HK:=kn1 w 61 (mC n s l m)
 unfold IsB
 by_cases h0:n=0
 case pos=>
  have HE:Hid (decide ((⟨n,s,l,m⟩:Mtr)=⟨0,0,0,0⟩)=decide (Mt.Ok ⟨n,s,l,m⟩)):=zH (Mt.ok_none (by omega))
  generalize decide (Mt.Ok ⟨n,s,l,m⟩)=b at *
  subst h0
  go_enter Tryz.func153,Tryz.ntmps153
  go_wp2_with (first|refine zX (kexec_mn HK 0 _ (by rfl) (by rfl) (by rfl)) ?_|refine zX (kexec_lm HK 0 _ (by rfl) (by rfl) (by rfl)) ?_|refine zX (exec_meq (x:=⟨0,s,l,m⟩) (y:=⟨0,0,0,0⟩) _ _ (by rfl) (by rfl) (by rfl) HE.out) ?_)
  go_ret
  exact⟨rfl,HK.out.b⟩
 case neg=>
 clear f1 f2 f3
 have hz:(n==0)=false:=by rw[beq_eq_false_iff_ne];exact h0
 have hpn:0<n∨¬0<n:=by omega
 by_cases hs:Num.M s=s
 case neg=>
  have hok:decide (Mt.Ok ⟨n,s,l,m⟩)=false:=decide_eq_false (Mt.okn_s h0 hs)
  rw[hok]
  have HN:=zH (decide_eq_false (p:=s=Num.M s) (fun e=>hs e.symm))
  clear hok hs h0
  generalize Num.M s=t at *
  go_enter Tryz.func153,Tryz.ntmps153
  go_wp2_with (first|refine zX (kexec_mn HK 0 _ (by rfl) (by rfl) (by rfl)) ?_)
  refine wp_region_held_drew (S:=(fun W=>Hid (Kn w.heap.size w W [(w.heap.size,61,mC n s l m)] []))) (by kernel_rfl) ?_ (fun hHeld=>?_)
  ·(try dsimp only);exact zH HK.out.drew
  refine stk 0 10 rfl ?_
  refine stk 1 11 rfl ?_ (fun w hSw=>kexec_ms hSw 0 _ (by rfl) (by rfl) (by rfl))
  refine stk 2 12 rfl ?_
  refine stk 3 13 rfl ?_ (fun w hSw=>kexec_ms hSw 0 _ (by rfl) (by rfl) (by rfl))
  refine srd1 4 (some 14) rfl (fun K hK=>?_)
  go_simp
  go_at_call 193
  refine(H1.out _).mono ?_;rintro e w5 ⟨rfl,rfl⟩;have hs:=hHeld
  refine hK.out _ _ hs (fun hHeld=>?_)
  clear hK K
  try simp only[ap1,ap2,ap3,ap4,ap5]
  refine stk 5 15 rfl ?_ (fun w hSw=>exec_ueq (x:=s) (y:=t) _ _ (by rfl) (by rfl) (by rfl) HN.out)
  refine stk 6 16 rfl ?_
  refine stu 7 17 rfl ?_
  refine stu 8 18 rfl ?_
  refine stu 9 19 rfl ?_
  refine stu 10 20 rfl ?_
  refine stu 11 21 rfl ?_
  refine stu 12 22 rfl ?_
  refine stk 13 23 rfl ?_
  refine stk 14 24 rfl ?_
  refine stu 15 25 rfl ?_
  refine stu 16 26 rfl ?_
  refine stu 17 27 rfl ?_
  refine stu 18 28 rfl ?_
  refine stu 19 29 rfl ?_
  refine stu 20 30 rfl ?_
  refine stk 21 31 rfl ?_
  refine stk 22 3 rfl ?_
  refine wpAnyH_done (by kernel_rfl) ?_ _
  replace HK:=hHeld
  clear hHeld
  have k0:=HK.out.cell 0 rfl 0 (v:=.int .i64 n) rfl
  have k2:=HK.out.cell 0 rfl 2 (v:=.int .u64 (l:Int)) rfl
  have k3:=HK.out.cell 0 rfl 3 (v:=.int .u64 (m:Int)) rfl
  rcases hpn with hp|hp
  ·go_wp2_with fail
   go_ret
   exact⟨rfl,HK.out.b⟩
  ·go_wp2_with fail
   go_ret
   exact⟨rfl,HK.out.b⟩
 case pos=>
 rw[hs] at H1
 by_cases hl:Num.M l=l
 case neg=>
  have hok:decide (Mt.Ok ⟨n,s,l,m⟩)=false:=decide_eq_false (Mt.okn_l h0 hl)
  rw[hok]
  have HN:=zH (decide_eq_false (p:=l=Num.M l) (fun e=>hl e.symm))
  clear hok hs hl h0
  generalize Num.M l=t at *
  go_enter Tryz.func153,Tryz.ntmps153
  go_wp2_with (first|refine zX (kexec_mn HK 0 _ (by rfl) (by rfl) (by rfl)) ?_)
  refine wp_region_held_drew (S:=(fun W=>Hid (Kn w.heap.size w W [(w.heap.size,61,mC n s l m)] []))) (by kernel_rfl) ?_ (fun hHeld=>?_)
  ·(try dsimp only);exact zH HK.out.drew
  refine stk 0 10 rfl ?_
  refine stk 1 11 rfl ?_ (fun w hSw=>kexec_ms hSw 0 _ (by rfl) (by rfl) (by rfl))
  refine stk 2 12 rfl ?_
  refine stk 3 13 rfl ?_ (fun w hSw=>kexec_ms hSw 0 _ (by rfl) (by rfl) (by rfl))
  refine srd1 4 (some 14) rfl (fun K hK=>?_)
  go_simp
  go_at_call 193
  refine(H1.out _).mono ?_;rintro e w5 ⟨rfl,rfl⟩;have hs:=hHeld
  refine hK.out _ _ hs (fun hHeld=>?_)
  clear hK K
  try simp only[ap1,ap2,ap3,ap4,ap5]
  refine stk 5 15 rfl ?_ (fun w hSw=>exec_ueq (x:=s) (y:=s) _ _ (by rfl) (by rfl) (by rfl) (ueq_self s))
  refine stk 6 16 rfl ?_
  refine stk 7 17 rfl ?_
  refine stk 8 18 rfl ?_ (fun w hSw=>kexec_ml hSw 0 _ (by rfl) (by rfl) (by rfl))
  refine stk 9 19 rfl ?_
  refine stk 10 20 rfl ?_ (fun w hSw=>kexec_ml hSw 0 _ (by rfl) (by rfl) (by rfl))
  refine srd1 11 (some 21) rfl (fun K hK=>?_)
  go_simp
  go_at_call 193
  refine(H2.out _).mono ?_;rintro e w5 ⟨rfl,rfl⟩;have hs:=hHeld
  refine hK.out _ _ hs (fun hHeld=>?_)
  clear hK K
  try simp only[ap1,ap2,ap3,ap4,ap5]
  refine stk 12 22 rfl ?_ (fun w hSw=>exec_ueq (x:=l) (y:=t) _ _ (by rfl) (by rfl) (by rfl) HN.out)
  refine stk 13 23 rfl ?_
  refine stk 14 24 rfl ?_
  refine stu 15 25 rfl ?_
  refine stu 16 26 rfl ?_
  refine stu 17 27 rfl ?_
  refine stu 18 28 rfl ?_
  refine stu 19 29 rfl ?_
  refine stu 20 30 rfl ?_
  refine stk 21 31 rfl ?_
  refine stk 22 3 rfl ?_
  refine wpAnyH_done (by kernel_rfl) ?_ _
  replace HK:=hHeld
  clear hHeld
  have k0:=HK.out.cell 0 rfl 0 (v:=.int .i64 n) rfl
  have k2:=HK.out.cell 0 rfl 2 (v:=.int .u64 (l:Int)) rfl
  have k3:=HK.out.cell 0 rfl 3 (v:=.int .u64 (m:Int)) rfl
  rcases hpn with hp|hp
  ·go_wp2_with fail
   go_ret
   exact⟨rfl,HK.out.b⟩
  ·go_wp2_with fail
   go_ret
   exact⟨rfl,HK.out.b⟩
 case pos=>
 rw[hl] at H2
 by_cases hm:Num.M m=m
 case neg=>
  have hok:decide (Mt.Ok ⟨n,s,l,m⟩)=false:=decide_eq_false (Mt.okn_m h0 hm)
  rw[hok]
  have HN:=zH (decide_eq_false (p:=m=Num.M m) (fun e=>hm e.symm))
  clear hok hs hl hm h0
  generalize Num.M m=t at *
  go_enter Tryz.func153,Tryz.ntmps153
  go_wp2_with (first|refine zX (kexec_mn HK 0 _ (by rfl) (by rfl) (by rfl)) ?_)
  refine wp_region_held_drew (S:=(fun W=>Hid (Kn w.heap.size w W [(w.heap.size,61,mC n s l m)] []))) (by kernel_rfl) ?_ (fun hHeld=>?_)
  ·(try dsimp only);exact zH HK.out.drew
  refine stk 0 10 rfl ?_
  refine stk 1 11 rfl ?_ (fun w hSw=>kexec_ms hSw 0 _ (by rfl) (by rfl) (by rfl))
  refine stk 2 12 rfl ?_
  refine stk 3 13 rfl ?_ (fun w hSw=>kexec_ms hSw 0 _ (by rfl) (by rfl) (by rfl))
  refine srd1 4 (some 14) rfl (fun K hK=>?_)
  go_simp
  go_at_call 193
  refine(H1.out _).mono ?_;rintro e w5 ⟨rfl,rfl⟩;have hs:=hHeld
  refine hK.out _ _ hs (fun hHeld=>?_)
  clear hK K
  try simp only[ap1,ap2,ap3,ap4,ap5]
  refine stk 5 15 rfl ?_ (fun w hSw=>exec_ueq (x:=s) (y:=s) _ _ (by rfl) (by rfl) (by rfl) (ueq_self s))
  refine stk 6 16 rfl ?_
  refine stk 7 17 rfl ?_
  refine stk 8 18 rfl ?_ (fun w hSw=>kexec_ml hSw 0 _ (by rfl) (by rfl) (by rfl))
  refine stk 9 19 rfl ?_
  refine stk 10 20 rfl ?_ (fun w hSw=>kexec_ml hSw 0 _ (by rfl) (by rfl) (by rfl))
  refine srd1 11 (some 21) rfl (fun K hK=>?_)
  go_simp
  go_at_call 193
  refine(H2.out _).mono ?_;rintro e w5 ⟨rfl,rfl⟩;have hs:=hHeld
  refine hK.out _ _ hs (fun hHeld=>?_)
  clear hK K
  try simp only[ap1,ap2,ap3,ap4,ap5]
  refine stk 12 22 rfl ?_ (fun w hSw=>exec_ueq (x:=l) (y:=l) _ _ (by rfl) (by rfl) (by rfl) (ueq_self l))
  refine stk 13 23 rfl ?_
  refine stk 14 24 rfl ?_
  refine stk 15 25 rfl ?_
  refine stk 16 26 rfl ?_ (fun w hSw=>kexec_mm hSw 0 _ (by rfl) (by rfl) (by rfl))
  refine stk 17 27 rfl ?_
  refine stk 18 28 rfl ?_ (fun w hSw=>kexec_mm hSw 0 _ (by rfl) (by rfl) (by rfl))
  refine srd1 19 (some 29) rfl (fun K hK=>?_)
  go_simp
  go_at_call 193
  refine(H3.out _).mono ?_;rintro e w5 ⟨rfl,rfl⟩;have hs:=hHeld
  refine hK.out _ _ hs (fun hHeld=>?_)
  clear hK K
  try simp only[ap1,ap2,ap3,ap4,ap5]
  refine stk 20 30 rfl ?_ (fun w hSw=>exec_ueq (x:=m) (y:=t) _ _ (by rfl) (by rfl) (by rfl) HN.out)
  refine stk 21 31 rfl ?_
  refine stk 22 3 rfl ?_
  refine wpAnyH_done (by kernel_rfl) ?_ _
  replace HK:=hHeld
  clear hHeld
  have k0:=HK.out.cell 0 rfl 0 (v:=.int .i64 n) rfl
  have k2:=HK.out.cell 0 rfl 2 (v:=.int .u64 (l:Int)) rfl
  have k3:=HK.out.cell 0 rfl 3 (v:=.int .u64 (m:Int)) rfl
  rcases hpn with hp|hp
  ·go_wp2_with fail
   go_ret
   exact⟨rfl,HK.out.b⟩
  ·go_wp2_with fail
   go_ret
   exact⟨rfl,HK.out.b⟩
 case pos=>
  rw[hm] at H3
  rcases hpn with hp|hp
  ·have hok:decide (Mt.Ok ⟨n,s,l,m⟩)=decide (Num.cmp l m≤0):=decide_eq_decide.2 (Mt.ok_all hp hs hl hm)
   rw[hok]
   clear hok hs hl hm h0
   generalize Num.cmp l m=c at *
   go_enter Tryz.func153,Tryz.ntmps153
   go_wp2_with (first|refine zX (kexec_mn HK 0 _ (by rfl) (by rfl) (by rfl)) ?_)
   refine wp_region_held_drew (S:=(fun W=>Hid (Kn w.heap.size w W [(w.heap.size,61,mC n s l m)] []))) (by kernel_rfl) ?_ (fun hHeld=>?_)
   ·(try dsimp only);exact zH HK.out.drew
   refine stk 0 10 rfl ?_
   refine stk 1 11 rfl ?_ (fun w hSw=>kexec_ms hSw 0 _ (by rfl) (by rfl) (by rfl))
   refine stk 2 12 rfl ?_
   refine stk 3 13 rfl ?_ (fun w hSw=>kexec_ms hSw 0 _ (by rfl) (by rfl) (by rfl))
   refine srd1 4 (some 14) rfl (fun K hK=>?_)
   go_simp
   go_at_call 193
   refine(H1.out _).mono ?_;rintro e w5 ⟨rfl,rfl⟩;have hs:=hHeld
   refine hK.out _ _ hs (fun hHeld=>?_)
   clear hK K
   try simp only[ap1,ap2,ap3,ap4,ap5]
   refine stk 5 15 rfl ?_ (fun w hSw=>exec_ueq (x:=s) (y:=s) _ _ (by rfl) (by rfl) (by rfl) (ueq_self s))
   refine stk 6 16 rfl ?_
   refine stk 7 17 rfl ?_
   refine stk 8 18 rfl ?_ (fun w hSw=>kexec_ml hSw 0 _ (by rfl) (by rfl) (by rfl))
   refine stk 9 19 rfl ?_
   refine stk 10 20 rfl ?_ (fun w hSw=>kexec_ml hSw 0 _ (by rfl) (by rfl) (by rfl))
   refine srd1 11 (some 21) rfl (fun K hK=>?_)
   go_simp
   go_at_call 193
   refine(H2.out _).mono ?_;rintro e w5 ⟨rfl,rfl⟩;have hs:=hHeld
   refine hK.out _ _ hs (fun hHeld=>?_)
   clear hK K
   try simp only[ap1,ap2,ap3,ap4,ap5]
   refine stk 12 22 rfl ?_ (fun w hSw=>exec_ueq (x:=l) (y:=l) _ _ (by rfl) (by rfl) (by rfl) (ueq_self l))
   refine stk 13 23 rfl ?_
   refine stk 14 24 rfl ?_
   refine stk 15 25 rfl ?_
   refine stk 16 26 rfl ?_ (fun w hSw=>kexec_mm hSw 0 _ (by rfl) (by rfl) (by rfl))
   refine stk 17 27 rfl ?_
   refine stk 18 28 rfl ?_ (fun w hSw=>kexec_mm hSw 0 _ (by rfl) (by rfl) (by rfl))
   refine srd1 19 (some 29) rfl (fun K hK=>?_)
   go_simp
   go_at_call 193
   refine(H3.out _).mono ?_;rintro e w5 ⟨rfl,rfl⟩;have hs:=hHeld
   refine hK.out _ _ hs (fun hHeld=>?_)
   clear hK K
   try simp only[ap1,ap2,ap3,ap4,ap5]
   refine stk 20 30 rfl ?_ (fun w hSw=>exec_ueq (x:=m) (y:=m) _ _ (by rfl) (by rfl) (by rfl) (ueq_self m))
   refine stk 21 31 rfl ?_
   refine stk 22 3 rfl ?_
   refine wpAnyH_done (by kernel_rfl) ?_ _
   replace HK:=hHeld
   clear hHeld
   have k0:=HK.out.cell 0 rfl 0 (v:=.int .i64 n) rfl
   have k2:=HK.out.cell 0 rfl 2 (v:=.int .u64 (l:Int)) rfl
   have k3:=HK.out.cell 0 rfl 3 (v:=.int .u64 (m:Int)) rfl
   go_wp2_with fail
   refine(H4.out _).mono ?_;rintro e w1 ⟨rfl,rfl⟩
   go_wp2_with fail
   go_ret
   exact⟨rfl,HK.out.b⟩
  ·have hok:decide (Mt.Ok ⟨n,s,l,m⟩)=false:=decide_eq_false (Mt.okn h0 hp)
   rw[hok]
   clear hok hs hl hm h0
   go_enter Tryz.func153,Tryz.ntmps153
   go_wp2_with (first|refine zX (kexec_mn HK 0 _ (by rfl) (by rfl) (by rfl)) ?_)
   refine wp_region_held_drew (S:=(fun W=>Hid (Kn w.heap.size w W [(w.heap.size,61,mC n s l m)] []))) (by kernel_rfl) ?_ (fun hHeld=>?_)
   ·(try dsimp only);exact zH HK.out.drew
   refine stk 0 10 rfl ?_
   refine stk 1 11 rfl ?_ (fun w hSw=>kexec_ms hSw 0 _ (by rfl) (by rfl) (by rfl))
   refine stk 2 12 rfl ?_
   refine stk 3 13 rfl ?_ (fun w hSw=>kexec_ms hSw 0 _ (by rfl) (by rfl) (by rfl))
   refine srd1 4 (some 14) rfl (fun K hK=>?_)
   go_simp
   go_at_call 193
   refine(H1.out _).mono ?_;rintro e w5 ⟨rfl,rfl⟩;have hs:=hHeld
   refine hK.out _ _ hs (fun hHeld=>?_)
   clear hK K
   try simp only[ap1,ap2,ap3,ap4,ap5]
   refine stk 5 15 rfl ?_ (fun w hSw=>exec_ueq (x:=s) (y:=s) _ _ (by rfl) (by rfl) (by rfl) (ueq_self s))
   refine stk 6 16 rfl ?_
   refine stk 7 17 rfl ?_
   refine stk 8 18 rfl ?_ (fun w hSw=>kexec_ml hSw 0 _ (by rfl) (by rfl) (by rfl))
   refine stk 9 19 rfl ?_
   refine stk 10 20 rfl ?_ (fun w hSw=>kexec_ml hSw 0 _ (by rfl) (by rfl) (by rfl))
   refine srd1 11 (some 21) rfl (fun K hK=>?_)
   go_simp
   go_at_call 193
   refine(H2.out _).mono ?_;rintro e w5 ⟨rfl,rfl⟩;have hs:=hHeld
   refine hK.out _ _ hs (fun hHeld=>?_)
   clear hK K
   try simp only[ap1,ap2,ap3,ap4,ap5]
   refine stk 12 22 rfl ?_ (fun w hSw=>exec_ueq (x:=l) (y:=l) _ _ (by rfl) (by rfl) (by rfl) (ueq_self l))
   refine stk 13 23 rfl ?_
   refine stk 14 24 rfl ?_
   refine stk 15 25 rfl ?_
   refine stk 16 26 rfl ?_ (fun w hSw=>kexec_mm hSw 0 _ (by rfl) (by rfl) (by rfl))
   refine stk 17 27 rfl ?_
   refine stk 18 28 rfl ?_ (fun w hSw=>kexec_mm hSw 0 _ (by rfl) (by rfl) (by rfl))
   refine srd1 19 (some 29) rfl (fun K hK=>?_)
   go_simp
   go_at_call 193
   refine(H3.out _).mono ?_;rintro e w5 ⟨rfl,rfl⟩;have hs:=hHeld
   refine hK.out _ _ hs (fun hHeld=>?_)
   clear hK K
   try simp only[ap1,ap2,ap3,ap4,ap5]
   refine stk 20 30 rfl ?_ (fun w hSw=>exec_ueq (x:=m) (y:=m) _ _ (by rfl) (by rfl) (by rfl) (ueq_self m))
   refine stk 21 31 rfl ?_
   refine stk 22 3 rfl ?_
   refine wpAnyH_done (by kernel_rfl) ?_ _
   replace HK:=hHeld
   clear hHeld
   have k0:=HK.out.cell 0 rfl 0 (v:=.int .i64 n) rfl
   have k2:=HK.out.cell 0 rfl 2 (v:=.int .u64 (l:Int)) rfl
   have k3:=HK.out.cell 0 rfl 3 (v:=.int .u64 (m:Int)) rfl
   go_wp2_with fail
   go_ret
   exact⟨rfl,HK.out.b⟩
end
section
open Go.RowKit
theorem exec_se0{w:World}{o:Oper}{a:Act}{x:ByteArray}{b:Bool}(p:Operand)(ho:o.op=.binOp .eql 9 p (.const (.string ⟨#[]⟩)) 9)(hp:a.eval p=.string x)(hb:decide (x.size=0)=b):
  (execOp a.eval o).run Tryz.prog w=.ok (.value (.bool b)) w:=by
 refine exec_seq (y:=⟨#[]⟩) p (.const (.string ⟨#[]⟩)) ho hp rfl ?_
 rw[← hb]
 by_cases h:x.size=0
 ·rw[decide_eq_true h,decide_eq_true (show x=⟨#[]⟩ from Val.size_zero h)]
 ·rw[decide_eq_false h,decide_eq_false (fun e=>h (by rw[e];rfl))]
theorem rone_any(x:Oh)(w:World)(hx:In w x):Calls Tryz.prog 83 #[.agg (obA x)] w (IsB (Sto.One x.v) w):=by
 rw[Sto.one_non]
 have HI:=zH hx
 have HN:=zH (fun W (hW:Below w.heap.size w W)=>rnone_any x W (hx.later hW))
 have HK:=kn1 w 63 (obA x)
 have HD:=zH rright_any
 have HQ:=zH rqright_any
 have HL:=zH rlright_any
 have HG:=zH rgright_any
 have HM:=zH mrright_any
 clear hx
 unfold IsB at *
 by_cases hz:x.v.name.size=0
 ·have E0:=zH (decide_eq_true hz)
  have E16:=zH (rfl:decide (16<(x.v.name.size:Int))=decide (16<(x.v.name.size:Int)))
  have hd:decide (Sto.named x.v.name)=false:=decide_eq_false fun g=>g.1 hz
  rw[hd,Bool.false_and,Bool.false_and]
  clear hd hz
  go_enter Tryz.func83,Tryz.ntmps83
  go_wp2_with (first|refine zX (kob_n HK 0 _ (by rfl) (by rfl) (by rfl)) ?_|refine zX (exec_se0 (x:=x.v.name) _ (by rfl) (by rfl) E0.out) ?_|refine zX (exec_gt (x:=(x.v.name.size:Int)) (k:=16) _ (by rfl) (by rfl) E16.out) ?_)
  go_ret
  exact⟨rfl,HK.out.b⟩
 have E0:=zH (decide_eq_false hz)
 by_cases h16:x.v.name.size≤16
 case neg=>
  have hd:decide (Sto.named x.v.name)=false:=decide_eq_false fun g=>h16 g.2
  have E16:=zH (decide_eq_true (by omega:16<(x.v.name.size:Int)))
  rw[hd,Bool.false_and,Bool.false_and]
  clear hd hz h16
  go_enter Tryz.func83,Tryz.ntmps83
  go_wp2_with (first|refine zX (kob_n HK 0 _ (by rfl) (by rfl) (by rfl)) ?_|refine zX (exec_se0 (x:=x.v.name) _ (by rfl) (by rfl) E0.out) ?_|refine zX (exec_gt (x:=(x.v.name.size:Int)) (k:=16) _ (by rfl) (by rfl) E16.out) ?_)
  go_ret
  exact⟨rfl,HK.out.b⟩
 case pos=>
 have hd:decide (Sto.named x.v.name)=true:=decide_eq_true ⟨hz,h16⟩
 have E16:=zH (decide_eq_false (by omega:¬16<(x.v.name.size:Int)))
 rw[hd,Bool.true_and]
 clear hd hz h16
 generalize Sto.non x.v=q at *
 cases q
 ·rw[Bool.false_and]
  go_enter Tryz.func83,Tryz.ntmps83
  go_wp2_with (first|refine zX (kob_n HK 0 _ (by rfl) (by rfl) (by rfl)) ?_|refine zX (exec_se0 (x:=x.v.name) _ (by rfl) (by rfl) E0.out) ?_|refine zX (exec_gt (x:=(x.v.name.size:Int)) (k:=16) _ (by rfl) (by rfl) E16.out) ?_|refine zX (kob HK 0 _ (by rfl) (by rfl) (by rfl)) ?_)
  refine(HN.out _ HK.out.b).mono ?_;rintro e w1 ⟨rfl,b1⟩
  replace HK:=hkC HK b1;clear b1
  go_wp2_with fail
  go_ret
  exact⟨rfl,HK.out.b⟩
 rw[Bool.true_and]
 unfold Sto.sound
 by_cases h1:x.v.kind=1
 ·rw[if_pos h1]
  go_enter Tryz.func83,Tryz.ntmps83
  go_wp2_with (first|refine zX (kob_n HK 0 _ (by rfl) (by rfl) (by rfl)) ?_|refine zX (exec_se0 (x:=x.v.name) _ (by rfl) (by rfl) E0.out) ?_|refine zX (exec_gt (x:=(x.v.name.size:Int)) (k:=16) _ (by rfl) (by rfl) E16.out) ?_|refine zX (kob HK 0 _ (by rfl) (by rfl) (by rfl)) ?_)
  refine(HN.out _ HK.out.b).mono ?_;rintro e w1 ⟨rfl,b1⟩
  replace HK:=hkC HK b1;clear b1
  go_wp2_with (first|refine zX (kob_k HK 0 _ (by rfl) (by rfl) (by rfl)) ?_|refine zX (kob_p HK 0 _ (by rfl) (by rfl) (by rfl)) ?_)
  refine(HD.out _ _ _ _ _ (HI.out.p.later HK.out.b)).mono ?_;rintro e w1 ⟨rfl,b1⟩
  replace HK:=hkC HK b1;clear b1
  go_wp2_with fail
  go_ret
  exact⟨rfl,HK.out.b⟩
 rw[if_neg h1]
 by_cases h2:x.v.kind=2
 ·rw[if_pos h2]
  go_enter Tryz.func83,Tryz.ntmps83
  go_wp2_with (first|refine zX (kob_n HK 0 _ (by rfl) (by rfl) (by rfl)) ?_|refine zX (exec_se0 (x:=x.v.name) _ (by rfl) (by rfl) E0.out) ?_|refine zX (exec_gt (x:=(x.v.name.size:Int)) (k:=16) _ (by rfl) (by rfl) E16.out) ?_|refine zX (kob HK 0 _ (by rfl) (by rfl) (by rfl)) ?_)
  refine(HN.out _ HK.out.b).mono ?_;rintro e w1 ⟨rfl,b1⟩
  replace HK:=hkC HK b1;clear b1
  go_wp2_with (first|refine zX (kob_k HK 0 _ (by rfl) (by rfl) (by rfl)) ?_|refine zX (kob_c HK 0 _ (by rfl) (by rfl) (by rfl)) ?_|refine zX (kob_v HK 0 _ (by rfl) (by rfl) (by rfl)) ?_)
  refine(HQ.out _ _ _ _ _ _ (HI.out.v.later HK.out.b)).mono ?_;rintro e w1 ⟨rfl,b1⟩
  replace HK:=hkC HK b1;clear b1
  go_wp2_with fail
  go_ret
  exact⟨rfl,HK.out.b⟩
 rw[if_neg h2]
 by_cases h3:x.v.kind=3
 ·rw[if_pos h3]
  go_enter Tryz.func83,Tryz.ntmps83
  go_wp2_with (first|refine zX (kob_n HK 0 _ (by rfl) (by rfl) (by rfl)) ?_|refine zX (exec_se0 (x:=x.v.name) _ (by rfl) (by rfl) E0.out) ?_|refine zX (exec_gt (x:=(x.v.name.size:Int)) (k:=16) _ (by rfl) (by rfl) E16.out) ?_|refine zX (kob HK 0 _ (by rfl) (by rfl) (by rfl)) ?_)
  refine(HN.out _ HK.out.b).mono ?_;rintro e w1 ⟨rfl,b1⟩
  replace HK:=hkC HK b1;clear b1
  go_wp2_with (first|refine zX (kob_k HK 0 _ (by rfl) (by rfl) (by rfl)) ?_|refine zX (kob_r HK 0 _ (by rfl) (by rfl) (by rfl)) ?_)
  refine(HL.out _ _ _ _ _ (HI.out.r.later HK.out.b)).mono ?_;rintro e w1 ⟨rfl,b1⟩
  replace HK:=hkC HK b1;clear b1
  go_wp2_with fail
  go_ret
  exact⟨rfl,HK.out.b⟩
 rw[if_neg h3]
 by_cases h4:x.v.kind=4
 ·rw[if_pos h4]
  generalize hg:decide (Gt.Right x.v.cap x.v.refs)=gb
  have HGb:=zH hg
  clear hg
  cases gb
  all_goals
   go_enter Tryz.func83,Tryz.ntmps83
   go_wp2_with (first|refine zX (kob_n HK 0 _ (by rfl) (by rfl) (by rfl)) ?_|refine zX (exec_se0 (x:=x.v.name) _ (by rfl) (by rfl) E0.out) ?_|refine zX (exec_gt (x:=(x.v.name.size:Int)) (k:=16) _ (by rfl) (by rfl) E16.out) ?_|refine zX (kob HK 0 _ (by rfl) (by rfl) (by rfl)) ?_)
   refine(HN.out _ HK.out.b).mono ?_;rintro e w1 ⟨rfl,b1⟩
   replace HK:=hkC HK b1;clear b1
   go_wp2_with (first|refine zX (kob_k HK 0 _ (by rfl) (by rfl) (by rfl)) ?_|refine zX (kob_c HK 0 _ (by rfl) (by rfl) (by rfl)) ?_|refine zX (kob_r HK 0 _ (by rfl) (by rfl) (by rfl)) ?_)
   refine(HG.out _ _ _ _ _ _ (HI.out.r.later HK.out.b)).mono ?_;rintro e w1 ⟨rfl,b1⟩
   rw[HGb.out]
   replace HK:=hkC HK b1;clear b1
   go_wp2_with (first|refine zX (kob_d HK 0 _ (by rfl) (by rfl) (by rfl)) ?_)
   go_ret
   exact⟨rfl,HK.out.b⟩
 rw[if_neg h4]
 by_cases h5:x.v.kind=5
 ·rw[if_pos h5]
  go_enter Tryz.func83,Tryz.ntmps83
  go_wp2_with (first|refine zX (kob_n HK 0 _ (by rfl) (by rfl) (by rfl)) ?_|refine zX (exec_se0 (x:=x.v.name) _ (by rfl) (by rfl) E0.out) ?_|refine zX (exec_gt (x:=(x.v.name.size:Int)) (k:=16) _ (by rfl) (by rfl) E16.out) ?_|refine zX (kob HK 0 _ (by rfl) (by rfl) (by rfl)) ?_)
  refine(HN.out _ HK.out.b).mono ?_;rintro e w1 ⟨rfl,b1⟩
  replace HK:=hkC HK b1;clear b1
  go_wp2_with (first|refine zX (kob_k HK 0 _ (by rfl) (by rfl) (by rfl)) ?_|refine zX (kob_m HK 0 _ (by rfl) (by rfl) (by rfl)) ?_)
  refine(HM.out x.v.mt HI.out.m _).mono ?_;rintro e w1 ⟨rfl,b1⟩
  replace HK:=hkC HK b1;clear b1
  go_wp2_with fail
  go_ret
  exact⟨rfl,HK.out.b⟩
 ·rw[if_neg h5]
  go_enter Tryz.func83,Tryz.ntmps83
  go_wp2_with (first|refine zX (kob_n HK 0 _ (by rfl) (by rfl) (by rfl)) ?_|refine zX (exec_se0 (x:=x.v.name) _ (by rfl) (by rfl) E0.out) ?_|refine zX (exec_gt (x:=(x.v.name.size:Int)) (k:=16) _ (by rfl) (by rfl) E16.out) ?_|refine zX (kob HK 0 _ (by rfl) (by rfl) (by rfl)) ?_)
  refine(HN.out _ HK.out.b).mono ?_;rintro e w1 ⟨rfl,b1⟩
  replace HK:=hkC HK b1;clear b1
  go_wp2_with (first|refine zX (kob_k HK 0 _ (by rfl) (by rfl) (by rfl)) ?_)
  go_ret
  exact⟨rfl,HK.out.b⟩
end
section
open Go.RowKit
theorem roright_any(A:Option Addr)(c n:Nat)(l:List Oh)(w:World)(hs:Obs w A n c l):
  Calls Tryz.prog 40 #[.slice A n c] w (IsB (decide (Sto.Right (vs l))) w):=by
 unfold IsB
 by_cases hn:8<n
 ·have hd:decide (Sto.Right (vs l))=false:=decide_eq_false fun h=>by have:=h.len;rw[vs_len,hs.len] at this;omega
  rw[hd]
  have hn2:8<(n:Int):=by omega
  clear hs hd
  go_enter Tryz.func40,Tryz.ntmps40
  go_wp2_with fail
  go_ret
  exact⟨rfl,Below.refl _ w⟩
 have HS:=zH hs
 obtain⟨hno,hyes⟩:=Sto.right_told (l:=vs l) (by rw[vs_len];exact hs.len) (by omega:n≤8)
 have HNo:=zH hno
 have HYes:=zH hyes
 clear hs hno hyes
 generalize decide (Sto.Right (vs l))=r at *
 have hn2:¬8<(n:Int):=by omega
 have h063:0<9223372036854775807:=by decide
 have HK:=zH (Kn.start w)
 go_enter Tryz.func40,Tryz.ntmps40
 go_wp2_with fail
 go_loopw [3] (fun vi wr=>∃k:Nat,k≤n∧vi=.int .i64 k∧Hid (∀i,i<k→Sto.Good (vs l) i)∧Hid (Kn w.heap.size w wr [] [])) (fun vi _=>n-(intOf vi).toNat)
 case atStart=>exact⟨0,Nat.zero_le _,rfl,zH (fun i hi=>by omega),HK⟩
 case round=>
  clear HK
  obtain⟨k,hk,rfl,HGo,HK⟩:=hrel
  by_cases hlt:k<n
  ·obtain⟨x,hx,hin⟩:=HS.out.get hlt
   obtain⟨b,o,rfl,hat⟩:=HS.out.s.at (Nat.lt_of_le_of_lt (Nat.zero_le _) hlt)
   have HX:Hid (∀W,Below w.heap.size w W→∀j v,(obL x)[j]?=some v→W.cell? ⟨b,o+k*11+j,none⟩=some v):=zH (fun W hW=>hat W hW k x hx)
   have HPrev:Hid (∀j,k=j+1→∃y:Oh,(vs l)[j]?=some y.v∧∀W,Below w.heap.size w W→∀i v,(obL y)[i]?=some v→W.cell? ⟨b,o+j*11+i,none⟩=some v):=zH fun j hj=>by
    obtain⟨y,hy,_⟩:=HS.out.get (k:=j) (by omega)
    exact⟨y,vs_get hy,fun W hW=>hat W hW j y hy⟩
   have HOn:=zH (fun W (hW:Below w.heap.size w W)=>rone_any x W (hin.later hW))
   have hxv:=vs_get hx
   have HIf:Hid (Sto.Good (vs l) k↔(Sto.One x.v=true∧∀j y,k=j+1→(vs l)[j]?=some y→Dct.lt y.name x.v.name=true)):=zH ⟨fun h=>h _ hxv,fun h x' hx'=>by rw[hxv] at hx';injection hx' with hx';subst hx';exact h⟩
   unfold IsB at HOn
   clear hat hin hx hxv
   generalize Sto.One x.v=q0 at *
   have hk1:(0:Int)≤(k:Int):=by omega
   have hk2:(k:Int)<(n:Int):=by omega
   go_wp2_with fail
   cases q0 with
   | false=>
    have HR:Hid (r=false):=zH (HNo.out k hlt fun h=>by have:=(HIf.out.1 h).1;simp at this)
    refine wp_region_held_drew (S:=(fun W=>Hid (Kn w.heap.size w W [] []))) (by kernel_rfl) ?_ (fun hHeld=>?_)
    ·(try dsimp only);exact zH HK.out.drew
    refine stk 0 13 rfl ?_
    refine stk 1 14 rfl ?_
    refine stk 2 15 rfl ?_ (fun w hSw=>exec_ixo (i:=k) _ _ (by rfl) (by rfl) (by rfl) hlt)
    refine stk 3 16 rfl ?_ (fun w hSw=>exec_obx (off:=o+k*11) _ (by rfl) (by rfl) (HX.out _ hSw.out.b))
    refine srd1 4 (some 17) rfl (fun K hK=>?_)
    go_simp
    go_at_call 83
    refine(HOn.out _ hHeld.out.b).mono ?_;rintro e w5 ⟨rfl,b5⟩;have hs:=zH (hHeld.out.call b5);clear b5
    refine hK.out _ _ hs (fun hHeld=>?_)
    clear hK K
    try simp only[ap1,ap2,ap3,ap4,ap5]
    refine stk 5 18 rfl ?_
    refine stk 6 19 rfl ?_
    refine stu 7 20 rfl ?_
    refine stu 8 21 rfl ?_
    refine stu 9 22 rfl ?_
    refine stu 10 23 rfl ?_
    refine stu 11 24 rfl ?_
    refine stu 12 25 rfl ?_
    refine stu 13 26 rfl ?_
    refine stu 14 27 rfl ?_
    refine stu 15 28 rfl ?_
    refine stu 16 29 rfl ?_
    refine stu 17 30 rfl ?_
    refine stu 18 31 rfl ?_
    refine stu 19 32 rfl ?_
    refine stu 20 33 rfl ?_
    refine stu 21 34 rfl ?_
    refine stu 22 35 rfl ?_
    refine stk 23 36 rfl ?_
    refine wpAnyH_done (by kernel_rfl) ?_ _
    go_wp2_with fail
    go_ret
    exact⟨by rw[HR.out]<;>rfl,hHeld.out.b⟩
   | true=>
   rcases Nat.eq_zero_or_pos k with rfl|hpos
   ·clear HPrev
    refine wp_region_held_drew (S:=(fun W=>Hid (Kn w.heap.size w W [] []))) (by kernel_rfl) ?_ (fun hHeld=>?_)
    ·(try dsimp only);exact zH HK.out.drew
    refine stk 0 13 rfl ?_
    refine stk 1 14 rfl ?_
    refine stk 2 15 rfl ?_ (fun w hSw=>exec_ixo (i:=0) _ _ (by rfl) (by rfl) (by rfl) hlt)
    refine stk 3 16 rfl ?_ (fun w hSw=>exec_obx (off:=o+0*11) _ (by rfl) (by rfl) (HX.out _ hSw.out.b))
    refine srd1 4 (some 17) rfl (fun K hK=>?_)
    go_simp
    go_at_call 83
    refine(HOn.out _ hHeld.out.b).mono ?_;rintro e w5 ⟨rfl,b5⟩;have hs:=zH (hHeld.out.call b5);clear b5
    refine hK.out _ _ hs (fun hHeld=>?_)
    clear hK K
    try simp only[ap1,ap2,ap3,ap4,ap5]
    refine stk 5 18 rfl ?_
    refine stk 6 19 rfl ?_
    refine stk 7 20 rfl ?_
    refine stk 8 21 rfl ?_
    refine stk 9 22 rfl ?_
    refine stu 10 23 rfl ?_
    refine stu 11 24 rfl ?_
    refine stu 12 25 rfl ?_
    refine stu 13 26 rfl ?_
    refine stu 14 27 rfl ?_
    refine stu 15 28 rfl ?_
    refine stu 16 29 rfl ?_
    refine stu 17 30 rfl ?_
    refine stu 18 31 rfl ?_
    refine stu 19 32 rfl ?_
    refine stu 20 33 rfl ?_
    refine stu 21 34 rfl ?_
    refine stk 22 35 rfl ?_
    refine stk 23 36 rfl ?_
    refine wpAnyH_done (by kernel_rfl) ?_ _
    go_wp2_with (first|refine zX (exec_add1 (j:=0) _ (by rfl) (by rfl) h063) ?_)
    exact⟨⟨1,by omega,by go_num,zH (fun i hi=>by
     obtain rfl:i=0:=by omega
     exact HIf.out.2 ⟨rfl,fun j y h _=>by omega⟩),hHeld⟩,by simp[intOf];omega⟩
   ·obtain⟨j,rfl⟩:∃j,k=j+1:=⟨k-1,by omega⟩
    clear hpos
    obtain⟨y,hy,hyc⟩:=HPrev.out j rfl
    have HY:=zH hyc
    have HYl:=zH hy
    clear hy hyc HPrev
    have hj:j<n:=by omega
    have hj2:j<9223372036854775807:=by omega
    have hj4:j+1<9223372036854775807:=by omega
    have hj3:((j+1:Nat):Int) > 0:=by omega
    cases hlt2:Dct.lt y.v.name x.v.name with
    | true=>
     have hb:(!Dct.lt y.v.name x.v.name)=false:=by rw[hlt2];rfl
     refine wp_region_held_drew (S:=(fun W=>Hid (Kn w.heap.size w W [] []))) (by kernel_rfl) ?_ (fun hHeld=>?_)
     ·(try dsimp only);exact zH HK.out.drew
     refine stk 0 13 rfl ?_
     refine stk 1 14 rfl ?_
     refine stk 2 15 rfl ?_ (fun w hSw=>exec_ixo (i:=j+1) _ _ (by rfl) (by rfl) (by rfl) hlt)
     refine stk 3 16 rfl ?_ (fun w hSw=>exec_obx (off:=o+(j+1)*11) _ (by rfl) (by rfl) (HX.out _ hSw.out.b))
     refine srd1 4 (some 17) rfl (fun K hK=>?_)
     go_simp
     go_at_call 83
     refine(HOn.out _ hHeld.out.b).mono ?_;rintro e w5 ⟨rfl,b5⟩;have hs:=zH (hHeld.out.call b5);clear b5
     refine hK.out _ _ hs (fun hHeld=>?_)
     clear hK K
     try simp only[ap1,ap2,ap3,ap4,ap5]
     refine stk 5 18 rfl ?_
     refine stk 6 19 rfl ?_
     refine stk 7 20 rfl ?_
     refine stk 8 21 rfl ?_
     refine stk 9 22 rfl ?_
     refine stk 10 23 rfl ?_
     refine stk 11 24 rfl ?_
     refine stk 12 25 rfl ?_ (fun w hSw=>exec_sub1 (j:=j) _ (by rfl) (by rfl) hj2)
     refine stk 13 26 rfl ?_ (fun w hSw=>exec_ixo (i:=j) _ _ (by rfl) (by rfl) (by rfl) hj)
     refine stk 14 27 rfl ?_
     refine stk 15 28 rfl ?_ (fun w hSw=>exec_obn (off:=o+j*11) _ (by rfl) (by rfl) (HY.out _ hSw.out.b))
     refine stk 16 29 rfl ?_
     refine stk 17 30 rfl ?_
     refine stk 18 31 rfl ?_ (fun w hSw=>exec_ixo (i:=j+1) _ _ (by rfl) (by rfl) (by rfl) hlt)
     refine stk 19 32 rfl ?_
     refine stk 20 33 rfl ?_ (fun w hSw=>exec_obn (off:=o+(j+1)*11) _ (by rfl) (by rfl) (HX.out _ hSw.out.b))
     refine stk 21 34 rfl ?_ (fun w hSw=>exec_sge _ _ (by rfl) (by rfl) (by rfl) hb)
     refine stk 22 35 rfl ?_
     refine stk 23 36 rfl ?_
     refine wpAnyH_done (by kernel_rfl) ?_ _
     go_wp2_with (first|refine zX (exec_add1 (j:=j+1) _ (by rfl) (by rfl) hj4) ?_)
     exact⟨⟨j+2,by omega,by go_num,zH (fun i hi=>by
      by_cases hij:i=j+1
      ·subst hij
       refine HIf.out.2 ⟨rfl,fun j' y' h h'=>?_⟩
       obtain rfl:j=j':=by omega
       rw[HYl.out] at h'
       injection h' with h'
       subst h'
       exact hlt2
      ·exact HGo.out i (by omega)),hHeld⟩,by simp[intOf];omega⟩
    | false=>
     have hb:(!Dct.lt y.v.name x.v.name)=true:=by rw[hlt2];rfl
     have HR:Hid (r=false):=zH (HNo.out _ hlt fun h=>by
      have:=(HIf.out.1 h).2 j y.v rfl HYl.out
      rw[hlt2] at this;cases this)
     refine wp_region_held_drew (S:=(fun W=>Hid (Kn w.heap.size w W [] []))) (by kernel_rfl) ?_ (fun hHeld=>?_)
     ·(try dsimp only);exact zH HK.out.drew
     refine stk 0 13 rfl ?_
     refine stk 1 14 rfl ?_
     refine stk 2 15 rfl ?_ (fun w hSw=>exec_ixo (i:=j+1) _ _ (by rfl) (by rfl) (by rfl) hlt)
     refine stk 3 16 rfl ?_ (fun w hSw=>exec_obx (off:=o+(j+1)*11) _ (by rfl) (by rfl) (HX.out _ hSw.out.b))
     refine srd1 4 (some 17) rfl (fun K hK=>?_)
     go_simp
     go_at_call 83
     refine(HOn.out _ hHeld.out.b).mono ?_;rintro e w5 ⟨rfl,b5⟩;have hs:=zH (hHeld.out.call b5);clear b5
     refine hK.out _ _ hs (fun hHeld=>?_)
     clear hK K
     try simp only[ap1,ap2,ap3,ap4,ap5]
     refine stk 5 18 rfl ?_
     refine stk 6 19 rfl ?_
     refine stk 7 20 rfl ?_
     refine stk 8 21 rfl ?_
     refine stk 9 22 rfl ?_
     refine stk 10 23 rfl ?_
     refine stk 11 24 rfl ?_
     refine stk 12 25 rfl ?_ (fun w hSw=>exec_sub1 (j:=j) _ (by rfl) (by rfl) hj2)
     refine stk 13 26 rfl ?_ (fun w hSw=>exec_ixo (i:=j) _ _ (by rfl) (by rfl) (by rfl) hj)
     refine stk 14 27 rfl ?_
     refine stk 15 28 rfl ?_ (fun w hSw=>exec_obn (off:=o+j*11) _ (by rfl) (by rfl) (HY.out _ hSw.out.b))
     refine stk 16 29 rfl ?_
     refine stk 17 30 rfl ?_
     refine stk 18 31 rfl ?_ (fun w hSw=>exec_ixo (i:=j+1) _ _ (by rfl) (by rfl) (by rfl) hlt)
     refine stk 19 32 rfl ?_
     refine stk 20 33 rfl ?_ (fun w hSw=>exec_obn (off:=o+(j+1)*11) _ (by rfl) (by rfl) (HX.out _ hSw.out.b))
     refine stk 21 34 rfl ?_ (fun w hSw=>exec_sge _ _ (by rfl) (by rfl) (by rfl) hb)
     refine stk 22 35 rfl ?_
     refine stk 23 36 rfl ?_
     refine wpAnyH_done (by kernel_rfl) ?_ _
     go_wp2_with fail
     go_ret
     exact⟨by rw[HR.out]<;>rfl,hHeld.out.b⟩
  ·obtain rfl:k=n:=by omega
   have HR:Hid (r=true):=zH (HYes.out HGo.out)
   go_wp2_with fail
   go_ret
   exact⟨by rw[HR.out]<;>rfl,HK.out.b⟩
end
end Go.Proofs.YtieoeendnccafaaGreat
