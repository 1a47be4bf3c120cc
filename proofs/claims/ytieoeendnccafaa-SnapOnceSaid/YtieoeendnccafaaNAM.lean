/- What cmd.Right, the document's Right and Mine, and lock.asked return. No condition but those named. -/
import Derived.Test.YtieoeendnccafaaNTK
import Derived.Test.YtieoeendnccafaaNAL
import Derived.Test.YtieoeendnccafaaNAI
import Derived.Test.YtieoeendnccafaaNAA
set_option linter.unusedSimpArgs false
set_option linter.unusedVariables false
set_option maxRecDepth 100000
set_option maxHeartbeats 25600000
namespace Go.Proofs.Ytieoeendnccafaa
section
open Go.RowKit
theorem right_told{l:List Dct.Pr}{n:Nat}(hl:l.length=n)(hn:n≤8):(∀i,i<n→¬Dct.Good l i→decide (Dct.Right l)=false)∧((∀i,i<n→Dct.Good l i)→decide (Dct.Right l)=true):=by
 subst hl
 exact⟨fun i hi hg=>decide_eq_false fun h=>hg (((Dct.right_iff l).1 h).2 i hi),fun h=>decide_eq_true ((Dct.right_iff l).2 ⟨hn,h⟩)⟩
theorem right_any(A:Option Addr)(c n:Nat)(l:List Dct.Pr)(w:World)(hs:Sl w A n c l):
  Calls Try.prog 73 #[.slice A n c] w (IsB (decide (Dct.Right l)) w):=by
 by_cases hn:8<n
 ·have hd:decide (Dct.Right l)=false:=decide_eq_false fun h=>by have:=h.len;rw[hs.len] at this;omega
  rw[hd]
  have hn2:8<(n:Int):=by omega
  clear hs hd
  go_enter Try.func73,Try.ntmps73
  go_wp2_with fail
  go_ret
  exact⟨rfl,Below.refl _ w⟩
 have HS:=zH hs
 obtain⟨hno,hyes⟩:=right_told hs.len (by omega:n≤8)
 have HNo:=zH hno
 have HYes:=zH hyes
 have HG:Hid (∀k,k<n→∃x,l[k]?=some x∧x.val.f<18446744073709551616):=zH fun k hk=>by
  obtain⟨x,hx⟩:=Lay.get_of (l:=l) (k:=k) (by rw[hs.len];exact hk)
  exact⟨x,hx,hs.fs x (List.mem_of_getElem? hx)⟩
 clear hs hno hyes
 generalize decide (Dct.Right l)=r at *
 have hn2:¬8<(n:Int):=by omega
 have HK:=zH (Kn.start w)
 go_enter Try.func73,Try.ntmps73
 go_wp2_with fail
 go_loopw [10] (fun vi wr=>∃k:Nat,k≤n∧vi=.int .i64 k∧Hid (∀i,i<k→Dct.Good l i)∧Hid (Kn w.heap.size w wr [] [])) (fun vi _=>n-(intOf vi).toNat)
 case atStart=>exact⟨0,Nat.zero_le _,rfl,zH (fun i hi=>by omega),HK⟩
 case round=>
  clear HK
  obtain⟨k,hk,rfl,HGo,HK⟩:=hrel
  by_cases hlt:k<n
  ·obtain⟨x,hx,hf⟩:=HG.out k hlt
   obtain⟨b,o,rfl,hat⟩:=HS.out.at (Nat.lt_of_le_of_lt (Nat.zero_le _) hlt)
   have HX:=zH (fun W hW=>hat W hW k x hx)
   have HPrev:Hid (∀j,k=j+1→∃y,l[j]?=some y∧∀W,Below w.heap.size w W→∀i v,(prL y)[i]?=some v→W.cell? ⟨b,o+j*5+i,none⟩=some v):=zH fun j hj=>by
    obtain⟨y,hy,_⟩:=HG.out j (by omega)
    exact⟨y,hy,fun W hW=>hat W hW j y hy⟩
   have HCk:=zH (fun W=>pchk_any x.key x.val W hf)
   have HIf:Hid (Dct.Good l k↔(Dct.pchk x.key x.val=0∧∀j y,k=j+1→l[j]?=some y→Dct.lt y.key x.key=true)):=zH ⟨fun h=>h x hx,fun h x' hx'=>by rw[hx] at hx';injection hx' with hx';subst hx';exact h⟩
   clear hat hf hx
   obtain⟨key,vk,vn,vf,vs⟩:=x
   unfold vv IsE at HCk
   simp only at HCk HIf
   generalize Dct.pchk key ⟨vk,vn,vf,vs⟩=z at *
   have hk1:(0:Int)≤(k:Int):=by omega
   have hk2:(k:Int)<(n:Int):=by omega
   go_wp2_with (first|(refine wpList_of_exec (v:=.agg (prA ⟨key,vk,vn,vf,vs⟩)) (by rfl) (exec_lpr (off:=o+k*5) _ (by rfl) (by rfl) (HX.out _ HK.out.b)) ?_)|(refine wpList_akp HK rfl rfl ?_;intro _ g2 HK';simp only[lnA] at HK';replace HK:=HK';clear HK')|(refine wpList_sp (p1:=⟨⟨#[]⟩,⟨0,0,0,⟨#[]⟩⟩⟩) HK 0 rfl _ _ rfl rfl rfl rfl ?_;intro _ HK';simp only[List.set] at HK';replace HK:=HK';clear HK'))
   unfold prA at HK
   simp only at HK
   by_cases hz:z=0
   ·subst hz
    rcases Nat.eq_zero_or_pos k with rfl|hpos
    ·clear HPrev
     refine wp_region_held_drew (S:=(fun W=>Hid (Kn w.heap.size w W [(g2,101,prC key vk vn vf vs)] []))) (by kernel_rfl) ?_ (fun hHeld=>?_)
     ·(try dsimp only);exact zH HK.out.drew
     refine wpAnyH_take (i:=0) (oi:=⟨some 15,_,_,_,_,_⟩) (v:=?_) rfl (by kernel_rfl) (by kernel_rfl) (by kernel_rfl) (fun _ _ _ h=>h) (Or.inl ⟨by rfl,?_⟩) (by assumption) ?_
     rotate_left
     ·(intro w hSw;(try dsimp only at hSw);go_simp;try with_reducible rfl)
     try simp only[Act.put,List.setIfInBounds_toArray,List.set_cons_zero,List.set_cons_succ]
     refine wpAnyH_take (i:=1) (oi:=⟨some 16,_,_,_,_,_⟩) (v:=?_) rfl (by kernel_rfl) (by kernel_rfl) (by kernel_rfl) (fun _ _ _ h=>h) (Or.inl ⟨by rfl,?_⟩) (by assumption) ?_
     rotate_left
     ·(intro w hSw;refine Eq.trans (kexec_ppk hSw 0 _ (by rfl) (by rfl) (by rfl)) ?_;with_reducible rfl)
     try simp only[Act.put,List.setIfInBounds_toArray,List.set_cons_zero,List.set_cons_succ]
     refine wpAnyH_take (i:=2) (oi:=⟨some 17,_,_,_,_,_⟩) (v:=?_) rfl (by kernel_rfl) (by kernel_rfl) (by kernel_rfl) (fun _ _ _ h=>h) (Or.inl ⟨by rfl,?_⟩) (by assumption) ?_
     rotate_left
     ·(intro w hSw;(try dsimp only at hSw);go_simp;try with_reducible rfl)
     try simp only[Act.put,List.setIfInBounds_toArray,List.set_cons_zero,List.set_cons_succ]
     refine wpAnyH_take (i:=3) (oi:=⟨some 18,_,_,_,_,_⟩) (v:=?_) rfl (by kernel_rfl) (by kernel_rfl) (by kernel_rfl) (fun _ _ _ h=>h) (Or.inl ⟨by rfl,?_⟩) (by assumption) ?_
     rotate_left
     ·(intro w hSw;refine Eq.trans (kexec_ppv hSw 0 _ (by rfl) (by rfl) (by rfl)) ?_;with_reducible rfl)
     try simp only[Act.put,List.setIfInBounds_toArray,List.set_cons_zero,List.set_cons_succ]
     refine wpAnyH_ready (rs:=[4]) (by kernel_rfl) (by simp) ?_
     refine AllReadyH.cons (o:=⟨some 19,_,_,_,_,_⟩) rfl (fun K hK=>?_) AllReadyH.nil
     go_simp
     go_at_call 84
     refine(HCk.out _).mono ?_;rintro e w5 ⟨rfl,b5⟩;have hs:=zH (hHeld.out.call b5);clear b5
     refine hK.out _ _ hs (fun hHeld=>?_)
     clear hK K
     try simp only[ap1,ap2,ap3,ap4,ap5]
     refine wpAnyH_take (i:=5) (oi:=⟨some 20,_,_,_,_,_⟩) (v:=?_) rfl (by kernel_rfl) (by kernel_rfl) (by kernel_rfl) (fun _ _ _ h=>h) (Or.inl ⟨by rfl,?_⟩) (by assumption) ?_
     rotate_left
     ·(intro w hSw;(try dsimp only at hSw);go_simp;try with_reducible rfl)
     try simp only[Act.put,List.setIfInBounds_toArray,List.set_cons_zero,List.set_cons_succ]
     refine wpAnyH_take (i:=6) (oi:=⟨some 21,_,_,_,_,_⟩) (v:=?_) rfl (by kernel_rfl) (by kernel_rfl) (by kernel_rfl) (fun _ _ _ h=>h) (Or.inl ⟨by rfl,?_⟩) (by assumption) ?_
     rotate_left
     ·(intro w hSw;(try dsimp only at hSw);go_simp;try with_reducible rfl)
     try simp only[Act.put,List.setIfInBounds_toArray,List.set_cons_zero,List.set_cons_succ]
     refine wpAnyH_take (i:=7) (oi:=⟨some 22,_,_,_,_,_⟩) (v:=?_) rfl (by kernel_rfl) (by kernel_rfl) (by kernel_rfl) (fun _ _ _ h=>h) (Or.inl ⟨by rfl,?_⟩) (by assumption) ?_
     rotate_left
     ·(intro w hSw;(try dsimp only at hSw);go_simp;try with_reducible rfl)
     try simp only[Act.put,List.setIfInBounds_toArray,List.set_cons_zero,List.set_cons_succ]
     refine wpAnyH_take (i:=8) (oi:=⟨some 23,_,_,_,_,_⟩) (v:=?_) rfl (by kernel_rfl) (by kernel_rfl) (by kernel_rfl) (fun _ _ _ h=>h) (Or.inl ⟨by rfl,?_⟩) (by assumption) ?_
     rotate_left
     ·(intro w hSw;(try dsimp only at hSw);go_simp;try with_reducible rfl)
     try simp only[Act.put,List.setIfInBounds_toArray,List.set_cons_zero,List.set_cons_succ]
     refine wpAnyH_take (i:=9) (oi:=⟨some 24,_,_,_,_,_⟩) (v:=?_) rfl (by kernel_rfl) (by kernel_rfl) (by kernel_rfl) (fun _ _ _ h=>h) (Or.inl ⟨by rfl,?_⟩) (by assumption) ?_
     rotate_left
     ·(intro w hSw;(try dsimp only at hSw);go_simp;try with_reducible rfl)
     try simp only[Act.put,List.setIfInBounds_toArray,List.set_cons_zero,List.set_cons_succ]
     refine wpAnyH_take (i:=10) (oi:=⟨some 25,_,_,_,_,_⟩) (v:=undef) rfl (by kernel_rfl) (by kernel_rfl) (by kernel_rfl) (fun _ _ _ h=>h) (Or.inr ⟨by rfl,rfl⟩) (by assumption) ?_
     try simp only[Act.put,List.setIfInBounds_toArray,List.set_cons_zero,List.set_cons_succ]
     refine wpAnyH_take (i:=11) (oi:=⟨some 26,_,_,_,_,_⟩) (v:=undef) rfl (by kernel_rfl) (by kernel_rfl) (by kernel_rfl) (fun _ _ _ h=>h) (Or.inr ⟨by rfl,rfl⟩) (by assumption) ?_
     try simp only[Act.put,List.setIfInBounds_toArray,List.set_cons_zero,List.set_cons_succ]
     refine wpAnyH_take (i:=12) (oi:=⟨some 27,_,_,_,_,_⟩) (v:=undef) rfl (by kernel_rfl) (by kernel_rfl) (by kernel_rfl) (fun _ _ _ h=>h) (Or.inr ⟨by rfl,rfl⟩) (by assumption) ?_
     try simp only[Act.put,List.setIfInBounds_toArray,List.set_cons_zero,List.set_cons_succ]
     refine wpAnyH_take (i:=13) (oi:=⟨some 28,_,_,_,_,_⟩) (v:=undef) rfl (by kernel_rfl) (by kernel_rfl) (by kernel_rfl) (fun _ _ _ h=>h) (Or.inr ⟨by rfl,rfl⟩) (by assumption) ?_
     try simp only[Act.put,List.setIfInBounds_toArray,List.set_cons_zero,List.set_cons_succ]
     refine wpAnyH_take (i:=14) (oi:=⟨some 29,_,_,_,_,_⟩) (v:=undef) rfl (by kernel_rfl) (by kernel_rfl) (by kernel_rfl) (fun _ _ _ h=>h) (Or.inr ⟨by rfl,rfl⟩) (by assumption) ?_
     try simp only[Act.put,List.setIfInBounds_toArray,List.set_cons_zero,List.set_cons_succ]
     refine wpAnyH_take (i:=15) (oi:=⟨some 30,_,_,_,_,_⟩) (v:=undef) rfl (by kernel_rfl) (by kernel_rfl) (by kernel_rfl) (fun _ _ _ h=>h) (Or.inr ⟨by rfl,rfl⟩) (by assumption) ?_
     try simp only[Act.put,List.setIfInBounds_toArray,List.set_cons_zero,List.set_cons_succ]
     refine wpAnyH_take (i:=16) (oi:=⟨some 31,_,_,_,_,_⟩) (v:=undef) rfl (by kernel_rfl) (by kernel_rfl) (by kernel_rfl) (fun _ _ _ h=>h) (Or.inr ⟨by rfl,rfl⟩) (by assumption) ?_
     try simp only[Act.put,List.setIfInBounds_toArray,List.set_cons_zero,List.set_cons_succ]
     refine wpAnyH_take (i:=17) (oi:=⟨some 32,_,_,_,_,_⟩) (v:=undef) rfl (by kernel_rfl) (by kernel_rfl) (by kernel_rfl) (fun _ _ _ h=>h) (Or.inr ⟨by rfl,rfl⟩) (by assumption) ?_
     try simp only[Act.put,List.setIfInBounds_toArray,List.set_cons_zero,List.set_cons_succ]
     refine wpAnyH_take (i:=18) (oi:=⟨some 33,_,_,_,_,_⟩) (v:=undef) rfl (by kernel_rfl) (by kernel_rfl) (by kernel_rfl) (fun _ _ _ h=>h) (Or.inr ⟨by rfl,rfl⟩) (by assumption) ?_
     try simp only[Act.put,List.setIfInBounds_toArray,List.set_cons_zero,List.set_cons_succ]
     refine wpAnyH_take (i:=19) (oi:=⟨some 34,_,_,_,_,_⟩) (v:=?_) rfl (by kernel_rfl) (by kernel_rfl) (by kernel_rfl) (fun _ _ _ h=>h) (Or.inl ⟨by rfl,?_⟩) (by assumption) ?_
     rotate_left
     ·(intro w hSw;(try dsimp only at hSw);go_simp;try with_reducible rfl)
     try simp only[Act.put,List.setIfInBounds_toArray,List.set_cons_zero,List.set_cons_succ]
     refine wpAnyH_take (i:=20) (oi:=⟨some 35,_,_,_,_,_⟩) (v:=?_) rfl (by kernel_rfl) (by kernel_rfl) (by kernel_rfl) (fun _ _ _ h=>h) (Or.inl ⟨by rfl,?_⟩) (by assumption) ?_
     rotate_left
     ·(intro w hSw;(try dsimp only at hSw);go_simp;try with_reducible rfl)
     try simp only[Act.put,List.setIfInBounds_toArray,List.set_cons_zero,List.set_cons_succ]
     refine wpAnyH_done (by kernel_rfl) ?_ _
     go_wp2_with fail
     exact⟨⟨1,by omega,by go_num,zH (fun i hi=>by
      obtain rfl:i=0:=by omega
      exact HIf.out.2 ⟨rfl,fun j y h _=>by omega⟩),zH (hHeld.out.takeL 0)⟩,by simp[intOf];omega⟩
    ·obtain⟨j,rfl⟩:∃j,k=j+1:=⟨k-1,by omega⟩
     clear hpos
     obtain⟨y,hy,hyc⟩:=HPrev.out j rfl
     have HY:=zH hyc
     have HYl:=zH hy
     clear hy hyc HPrev
     have hj:j<n:=by omega
     have hj2:j<9223372036854775807:=by omega
     have hj3:((j+1:Nat):Int) > 0:=by omega
     cases hlt2:Dct.lt y.key key with
     | true=>
      have hb:(!Dct.lt y.key key)=false:=by rw[hlt2];rfl
      refine wp_region_held_drew (S:=(fun W=>Hid (Kn w.heap.size w W [(g2,101,prC key vk vn vf vs)] []))) (by kernel_rfl) ?_ (fun hHeld=>?_)
      ·(try dsimp only);exact zH HK.out.drew
      refine wpAnyH_take (i:=0) (oi:=⟨some 15,_,_,_,_,_⟩) (v:=?_) rfl (by kernel_rfl) (by kernel_rfl) (by kernel_rfl) (fun _ _ _ h=>h) (Or.inl ⟨by rfl,?_⟩) (by assumption) ?_
      rotate_left
      ·(intro w hSw;(try dsimp only at hSw);go_simp;try with_reducible rfl)
      try simp only[Act.put,List.setIfInBounds_toArray,List.set_cons_zero,List.set_cons_succ]
      refine wpAnyH_take (i:=1) (oi:=⟨some 16,_,_,_,_,_⟩) (v:=?_) rfl (by kernel_rfl) (by kernel_rfl) (by kernel_rfl) (fun _ _ _ h=>h) (Or.inl ⟨by rfl,?_⟩) (by assumption) ?_
      rotate_left
      ·(intro w hSw;refine Eq.trans (kexec_ppk hSw 0 _ (by rfl) (by rfl) (by rfl)) ?_;with_reducible rfl)
      try simp only[Act.put,List.setIfInBounds_toArray,List.set_cons_zero,List.set_cons_succ]
      refine wpAnyH_take (i:=2) (oi:=⟨some 17,_,_,_,_,_⟩) (v:=?_) rfl (by kernel_rfl) (by kernel_rfl) (by kernel_rfl) (fun _ _ _ h=>h) (Or.inl ⟨by rfl,?_⟩) (by assumption) ?_
      rotate_left
      ·(intro w hSw;(try dsimp only at hSw);go_simp;try with_reducible rfl)
      try simp only[Act.put,List.setIfInBounds_toArray,List.set_cons_zero,List.set_cons_succ]
      refine wpAnyH_take (i:=3) (oi:=⟨some 18,_,_,_,_,_⟩) (v:=?_) rfl (by kernel_rfl) (by kernel_rfl) (by kernel_rfl) (fun _ _ _ h=>h) (Or.inl ⟨by rfl,?_⟩) (by assumption) ?_
      rotate_left
      ·(intro w hSw;refine Eq.trans (kexec_ppv hSw 0 _ (by rfl) (by rfl) (by rfl)) ?_;with_reducible rfl)
      try simp only[Act.put,List.setIfInBounds_toArray,List.set_cons_zero,List.set_cons_succ]
      refine wpAnyH_ready (rs:=[4]) (by kernel_rfl) (by simp) ?_
      refine AllReadyH.cons (o:=⟨some 19,_,_,_,_,_⟩) rfl (fun K hK=>?_) AllReadyH.nil
      go_simp
      go_at_call 84
      refine(HCk.out _).mono ?_;rintro e w5 ⟨rfl,b5⟩;have hs:=zH (hHeld.out.call b5);clear b5
      refine hK.out _ _ hs (fun hHeld=>?_)
      clear hK K
      try simp only[ap1,ap2,ap3,ap4,ap5]
      refine wpAnyH_take (i:=5) (oi:=⟨some 20,_,_,_,_,_⟩) (v:=?_) rfl (by kernel_rfl) (by kernel_rfl) (by kernel_rfl) (fun _ _ _ h=>h) (Or.inl ⟨by rfl,?_⟩) (by assumption) ?_
      rotate_left
      ·(intro w hSw;(try dsimp only at hSw);go_simp;try with_reducible rfl)
      try simp only[Act.put,List.setIfInBounds_toArray,List.set_cons_zero,List.set_cons_succ]
      refine wpAnyH_take (i:=6) (oi:=⟨some 21,_,_,_,_,_⟩) (v:=?_) rfl (by kernel_rfl) (by kernel_rfl) (by kernel_rfl) (fun _ _ _ h=>h) (Or.inl ⟨by rfl,?_⟩) (by assumption) ?_
      rotate_left
      ·(intro w hSw;(try dsimp only at hSw);go_simp;try with_reducible rfl)
      try simp only[Act.put,List.setIfInBounds_toArray,List.set_cons_zero,List.set_cons_succ]
      refine wpAnyH_take (i:=7) (oi:=⟨some 22,_,_,_,_,_⟩) (v:=?_) rfl (by kernel_rfl) (by kernel_rfl) (by kernel_rfl) (fun _ _ _ h=>h) (Or.inl ⟨by rfl,?_⟩) (by assumption) ?_
      rotate_left
      ·(intro w hSw;(try dsimp only at hSw);go_simp;try with_reducible rfl)
      try simp only[Act.put,List.setIfInBounds_toArray,List.set_cons_zero,List.set_cons_succ]
      refine wpAnyH_take (i:=8) (oi:=⟨some 23,_,_,_,_,_⟩) (v:=?_) rfl (by kernel_rfl) (by kernel_rfl) (by kernel_rfl) (fun _ _ _ h=>h) (Or.inl ⟨by rfl,?_⟩) (by assumption) ?_
      rotate_left
      ·(intro w hSw;(try dsimp only at hSw);go_simp;try with_reducible rfl)
      try simp only[Act.put,List.setIfInBounds_toArray,List.set_cons_zero,List.set_cons_succ]
      refine wpAnyH_take (i:=9) (oi:=⟨some 24,_,_,_,_,_⟩) (v:=?_) rfl (by kernel_rfl) (by kernel_rfl) (by kernel_rfl) (fun _ _ _ h=>h) (Or.inl ⟨by rfl,?_⟩) (by assumption) ?_
      rotate_left
      ·(intro w hSw;(try dsimp only at hSw);go_simp;try with_reducible rfl)
      try simp only[Act.put,List.setIfInBounds_toArray,List.set_cons_zero,List.set_cons_succ]
      refine wpAnyH_take (i:=10) (oi:=⟨some 25,_,_,_,_,_⟩) (v:=?_) rfl (by kernel_rfl) (by kernel_rfl) (by kernel_rfl) (fun _ _ _ h=>h) (Or.inl ⟨by rfl,?_⟩) (by assumption) ?_
      rotate_left
      ·(intro w hSw;(try dsimp only at hSw);go_simp;try with_reducible rfl)
      try simp only[Act.put,List.setIfInBounds_toArray,List.set_cons_zero,List.set_cons_succ]
      refine wpAnyH_take (i:=11) (oi:=⟨some 26,_,_,_,_,_⟩) (v:=?_) rfl (by kernel_rfl) (by kernel_rfl) (by kernel_rfl) (fun _ _ _ h=>h) (Or.inl ⟨by rfl,?_⟩) (by assumption) ?_
      rotate_left
      ·(intro w hSw;refine Eq.trans (kexec_ppk hSw 0 _ (by rfl) (by rfl) (by rfl)) ?_;with_reducible rfl)
      try simp only[Act.put,List.setIfInBounds_toArray,List.set_cons_zero,List.set_cons_succ]
      refine wpAnyH_take (i:=12) (oi:=⟨some 27,_,_,_,_,_⟩) (v:=?_) rfl (by kernel_rfl) (by kernel_rfl) (by kernel_rfl) (fun _ _ _ h=>h) (Or.inl ⟨by rfl,?_⟩) (by assumption) ?_
      rotate_left
      ·(intro w hSw;(try dsimp only at hSw);go_simp;try with_reducible rfl)
      try simp only[Act.put,List.setIfInBounds_toArray,List.set_cons_zero,List.set_cons_succ]
      refine wpAnyH_take (i:=13) (oi:=⟨some 28,_,_,_,_,_⟩) (v:=?_) rfl (by kernel_rfl) (by kernel_rfl) (by kernel_rfl) (fun _ _ _ h=>h) (Or.inl ⟨by rfl,?_⟩) (by assumption) ?_
      rotate_left
      ·(intro w hSw;(try dsimp only at hSw);go_simp;try with_reducible rfl)
      try simp only[Act.put,List.setIfInBounds_toArray,List.set_cons_zero,List.set_cons_succ]
      refine wpAnyH_take (i:=14) (oi:=⟨some 29,_,_,_,_,_⟩) (v:=?_) rfl (by kernel_rfl) (by kernel_rfl) (by kernel_rfl) (fun _ _ _ h=>h) (Or.inl ⟨by rfl,?_⟩) (by assumption) ?_
      rotate_left
      ·(intro w hSw;refine Eq.trans (exec_sub1 (j:=j) _ (by rfl) (by rfl) hj2) ?_;with_reducible rfl)
      try simp only[Act.put,List.setIfInBounds_toArray,List.set_cons_zero,List.set_cons_succ]
      refine wpAnyH_take (i:=15) (oi:=⟨some 30,_,_,_,_,_⟩) (v:=?_) rfl (by kernel_rfl) (by kernel_rfl) (by kernel_rfl) (fun _ _ _ h=>h) (Or.inl ⟨by rfl,?_⟩) (by assumption) ?_
      rotate_left
      ·(intro w hSw;refine Eq.trans (exec_ix (i:=j) _ _ (by rfl) (by rfl) (by rfl) hj) ?_;with_reducible rfl)
      try simp only[Act.put,List.setIfInBounds_toArray,List.set_cons_zero,List.set_cons_succ]
      refine wpAnyH_take (i:=16) (oi:=⟨some 31,_,_,_,_,_⟩) (v:=?_) rfl (by kernel_rfl) (by kernel_rfl) (by kernel_rfl) (fun _ _ _ h=>h) (Or.inl ⟨by rfl,?_⟩) (by assumption) ?_
      rotate_left
      ·(intro w hSw;(try dsimp only at hSw);go_simp;try with_reducible rfl)
      try simp only[Act.put,List.setIfInBounds_toArray,List.set_cons_zero,List.set_cons_succ]
      refine wpAnyH_take (i:=17) (oi:=⟨some 32,_,_,_,_,_⟩) (v:=?_) rfl (by kernel_rfl) (by kernel_rfl) (by kernel_rfl) (fun _ _ _ h=>h) (Or.inl ⟨by rfl,?_⟩) (by assumption) ?_
      rotate_left
      ·(intro w hSw;refine Eq.trans (exec_lpk (off:=o+j*5) _ (by rfl) (by rfl) (HY.out _ hSw.out.b)) ?_;with_reducible rfl)
      try simp only[Act.put,List.setIfInBounds_toArray,List.set_cons_zero,List.set_cons_succ]
      refine wpAnyH_take (i:=18) (oi:=⟨some 33,_,_,_,_,_⟩) (v:=?_) rfl (by kernel_rfl) (by kernel_rfl) (by kernel_rfl) (fun _ _ _ h=>h) (Or.inl ⟨by rfl,?_⟩) (by assumption) ?_
      rotate_left
      ·(intro w hSw;refine Eq.trans (exec_sle _ _ (by rfl) (by rfl) (by rfl) hb) ?_;with_reducible rfl)
      try simp only[Act.put,List.setIfInBounds_toArray,List.set_cons_zero,List.set_cons_succ]
      refine wpAnyH_take (i:=19) (oi:=⟨some 34,_,_,_,_,_⟩) (v:=?_) rfl (by kernel_rfl) (by kernel_rfl) (by kernel_rfl) (fun _ _ _ h=>h) (Or.inl ⟨by rfl,?_⟩) (by assumption) ?_
      rotate_left
      ·(intro w hSw;(try dsimp only at hSw);go_simp;try with_reducible rfl)
      try simp only[Act.put,List.setIfInBounds_toArray,List.set_cons_zero,List.set_cons_succ]
      refine wpAnyH_take (i:=20) (oi:=⟨some 35,_,_,_,_,_⟩) (v:=?_) rfl (by kernel_rfl) (by kernel_rfl) (by kernel_rfl) (fun _ _ _ h=>h) (Or.inl ⟨by rfl,?_⟩) (by assumption) ?_
      rotate_left
      ·(intro w hSw;(try dsimp only at hSw);go_simp;try with_reducible rfl)
      try simp only[Act.put,List.setIfInBounds_toArray,List.set_cons_zero,List.set_cons_succ]
      refine wpAnyH_done (by kernel_rfl) ?_ _
      go_wp2_with fail
      exact⟨⟨j+2,by omega,by go_num,zH (fun i hi=>by
       by_cases hij:i=j+1
       ·subst hij
        refine HIf.out.2 ⟨rfl,fun j' y' h h'=>?_⟩
        obtain rfl:j=j':=by omega
        rw[HYl.out] at h'
        injection h' with h'
        subst h'
        exact hlt2
       ·exact HGo.out i (by omega)),zH (hHeld.out.takeL 0)⟩,by simp[intOf];omega⟩
     | false=>
      have hb:(!Dct.lt y.key key)=true:=by rw[hlt2];rfl
      have HR:Hid (r=false):=zH (HNo.out _ hlt fun h=>by
       have:=(HIf.out.1 h).2 j y rfl HYl.out
       rw[hlt2] at this;cases this)
      refine wp_region_held_drew (S:=(fun W=>Hid (Kn w.heap.size w W [(g2,101,prC key vk vn vf vs)] []))) (by kernel_rfl) ?_ (fun hHeld=>?_)
      ·(try dsimp only);exact zH HK.out.drew
      refine wpAnyH_take (i:=0) (oi:=⟨some 15,_,_,_,_,_⟩) (v:=?_) rfl (by kernel_rfl) (by kernel_rfl) (by kernel_rfl) (fun _ _ _ h=>h) (Or.inl ⟨by rfl,?_⟩) (by assumption) ?_
      rotate_left
      ·(intro w hSw;(try dsimp only at hSw);go_simp;try with_reducible rfl)
      try simp only[Act.put,List.setIfInBounds_toArray,List.set_cons_zero,List.set_cons_succ]
      refine wpAnyH_take (i:=1) (oi:=⟨some 16,_,_,_,_,_⟩) (v:=?_) rfl (by kernel_rfl) (by kernel_rfl) (by kernel_rfl) (fun _ _ _ h=>h) (Or.inl ⟨by rfl,?_⟩) (by assumption) ?_
      rotate_left
      ·(intro w hSw;refine Eq.trans (kexec_ppk hSw 0 _ (by rfl) (by rfl) (by rfl)) ?_;with_reducible rfl)
      try simp only[Act.put,List.setIfInBounds_toArray,List.set_cons_zero,List.set_cons_succ]
      refine wpAnyH_take (i:=2) (oi:=⟨some 17,_,_,_,_,_⟩) (v:=?_) rfl (by kernel_rfl) (by kernel_rfl) (by kernel_rfl) (fun _ _ _ h=>h) (Or.inl ⟨by rfl,?_⟩) (by assumption) ?_
      rotate_left
      ·(intro w hSw;(try dsimp only at hSw);go_simp;try with_reducible rfl)
      try simp only[Act.put,List.setIfInBounds_toArray,List.set_cons_zero,List.set_cons_succ]
      refine wpAnyH_take (i:=3) (oi:=⟨some 18,_,_,_,_,_⟩) (v:=?_) rfl (by kernel_rfl) (by kernel_rfl) (by kernel_rfl) (fun _ _ _ h=>h) (Or.inl ⟨by rfl,?_⟩) (by assumption) ?_
      rotate_left
      ·(intro w hSw;refine Eq.trans (kexec_ppv hSw 0 _ (by rfl) (by rfl) (by rfl)) ?_;with_reducible rfl)
      try simp only[Act.put,List.setIfInBounds_toArray,List.set_cons_zero,List.set_cons_succ]
      refine wpAnyH_ready (rs:=[4]) (by kernel_rfl) (by simp) ?_
      refine AllReadyH.cons (o:=⟨some 19,_,_,_,_,_⟩) rfl (fun K hK=>?_) AllReadyH.nil
      go_simp
      go_at_call 84
      refine(HCk.out _).mono ?_;rintro e w5 ⟨rfl,b5⟩;have hs:=zH (hHeld.out.call b5);clear b5
      refine hK.out _ _ hs (fun hHeld=>?_)
      clear hK K
      try simp only[ap1,ap2,ap3,ap4,ap5]
      refine wpAnyH_take (i:=5) (oi:=⟨some 20,_,_,_,_,_⟩) (v:=?_) rfl (by kernel_rfl) (by kernel_rfl) (by kernel_rfl) (fun _ _ _ h=>h) (Or.inl ⟨by rfl,?_⟩) (by assumption) ?_
      rotate_left
      ·(intro w hSw;(try dsimp only at hSw);go_simp;try with_reducible rfl)
      try simp only[Act.put,List.setIfInBounds_toArray,List.set_cons_zero,List.set_cons_succ]
      refine wpAnyH_take (i:=6) (oi:=⟨some 21,_,_,_,_,_⟩) (v:=?_) rfl (by kernel_rfl) (by kernel_rfl) (by kernel_rfl) (fun _ _ _ h=>h) (Or.inl ⟨by rfl,?_⟩) (by assumption) ?_
      rotate_left
      ·(intro w hSw;(try dsimp only at hSw);go_simp;try with_reducible rfl)
      try simp only[Act.put,List.setIfInBounds_toArray,List.set_cons_zero,List.set_cons_succ]
      refine wpAnyH_take (i:=7) (oi:=⟨some 22,_,_,_,_,_⟩) (v:=?_) rfl (by kernel_rfl) (by kernel_rfl) (by kernel_rfl) (fun _ _ _ h=>h) (Or.inl ⟨by rfl,?_⟩) (by assumption) ?_
      rotate_left
      ·(intro w hSw;(try dsimp only at hSw);go_simp;try with_reducible rfl)
      try simp only[Act.put,List.setIfInBounds_toArray,List.set_cons_zero,List.set_cons_succ]
      refine wpAnyH_take (i:=8) (oi:=⟨some 23,_,_,_,_,_⟩) (v:=?_) rfl (by kernel_rfl) (by kernel_rfl) (by kernel_rfl) (fun _ _ _ h=>h) (Or.inl ⟨by rfl,?_⟩) (by assumption) ?_
      rotate_left
      ·(intro w hSw;(try dsimp only at hSw);go_simp;try with_reducible rfl)
      try simp only[Act.put,List.setIfInBounds_toArray,List.set_cons_zero,List.set_cons_succ]
      refine wpAnyH_take (i:=9) (oi:=⟨some 24,_,_,_,_,_⟩) (v:=?_) rfl (by kernel_rfl) (by kernel_rfl) (by kernel_rfl) (fun _ _ _ h=>h) (Or.inl ⟨by rfl,?_⟩) (by assumption) ?_
      rotate_left
      ·(intro w hSw;(try dsimp only at hSw);go_simp;try with_reducible rfl)
      try simp only[Act.put,List.setIfInBounds_toArray,List.set_cons_zero,List.set_cons_succ]
      refine wpAnyH_take (i:=10) (oi:=⟨some 25,_,_,_,_,_⟩) (v:=?_) rfl (by kernel_rfl) (by kernel_rfl) (by kernel_rfl) (fun _ _ _ h=>h) (Or.inl ⟨by rfl,?_⟩) (by assumption) ?_
      rotate_left
      ·(intro w hSw;(try dsimp only at hSw);go_simp;try with_reducible rfl)
      try simp only[Act.put,List.setIfInBounds_toArray,List.set_cons_zero,List.set_cons_succ]
      refine wpAnyH_take (i:=11) (oi:=⟨some 26,_,_,_,_,_⟩) (v:=?_) rfl (by kernel_rfl) (by kernel_rfl) (by kernel_rfl) (fun _ _ _ h=>h) (Or.inl ⟨by rfl,?_⟩) (by assumption) ?_
      rotate_left
      ·(intro w hSw;refine Eq.trans (kexec_ppk hSw 0 _ (by rfl) (by rfl) (by rfl)) ?_;with_reducible rfl)
      try simp only[Act.put,List.setIfInBounds_toArray,List.set_cons_zero,List.set_cons_succ]
      refine wpAnyH_take (i:=12) (oi:=⟨some 27,_,_,_,_,_⟩) (v:=?_) rfl (by kernel_rfl) (by kernel_rfl) (by kernel_rfl) (fun _ _ _ h=>h) (Or.inl ⟨by rfl,?_⟩) (by assumption) ?_
      rotate_left
      ·(intro w hSw;(try dsimp only at hSw);go_simp;try with_reducible rfl)
      try simp only[Act.put,List.setIfInBounds_toArray,List.set_cons_zero,List.set_cons_succ]
      refine wpAnyH_take (i:=13) (oi:=⟨some 28,_,_,_,_,_⟩) (v:=?_) rfl (by kernel_rfl) (by kernel_rfl) (by kernel_rfl) (fun _ _ _ h=>h) (Or.inl ⟨by rfl,?_⟩) (by assumption) ?_
      rotate_left
      ·(intro w hSw;(try dsimp only at hSw);go_simp;try with_reducible rfl)
      try simp only[Act.put,List.setIfInBounds_toArray,List.set_cons_zero,List.set_cons_succ]
      refine wpAnyH_take (i:=14) (oi:=⟨some 29,_,_,_,_,_⟩) (v:=?_) rfl (by kernel_rfl) (by kernel_rfl) (by kernel_rfl) (fun _ _ _ h=>h) (Or.inl ⟨by rfl,?_⟩) (by assumption) ?_
      rotate_left
      ·(intro w hSw;refine Eq.trans (exec_sub1 (j:=j) _ (by rfl) (by rfl) hj2) ?_;with_reducible rfl)
      try simp only[Act.put,List.setIfInBounds_toArray,List.set_cons_zero,List.set_cons_succ]
      refine wpAnyH_take (i:=15) (oi:=⟨some 30,_,_,_,_,_⟩) (v:=?_) rfl (by kernel_rfl) (by kernel_rfl) (by kernel_rfl) (fun _ _ _ h=>h) (Or.inl ⟨by rfl,?_⟩) (by assumption) ?_
      rotate_left
      ·(intro w hSw;refine Eq.trans (exec_ix (i:=j) _ _ (by rfl) (by rfl) (by rfl) hj) ?_;with_reducible rfl)
      try simp only[Act.put,List.setIfInBounds_toArray,List.set_cons_zero,List.set_cons_succ]
      refine wpAnyH_take (i:=16) (oi:=⟨some 31,_,_,_,_,_⟩) (v:=?_) rfl (by kernel_rfl) (by kernel_rfl) (by kernel_rfl) (fun _ _ _ h=>h) (Or.inl ⟨by rfl,?_⟩) (by assumption) ?_
      rotate_left
      ·(intro w hSw;(try dsimp only at hSw);go_simp;try with_reducible rfl)
      try simp only[Act.put,List.setIfInBounds_toArray,List.set_cons_zero,List.set_cons_succ]
      refine wpAnyH_take (i:=17) (oi:=⟨some 32,_,_,_,_,_⟩) (v:=?_) rfl (by kernel_rfl) (by kernel_rfl) (by kernel_rfl) (fun _ _ _ h=>h) (Or.inl ⟨by rfl,?_⟩) (by assumption) ?_
      rotate_left
      ·(intro w hSw;refine Eq.trans (exec_lpk (off:=o+j*5) _ (by rfl) (by rfl) (HY.out _ hSw.out.b)) ?_;with_reducible rfl)
      try simp only[Act.put,List.setIfInBounds_toArray,List.set_cons_zero,List.set_cons_succ]
      refine wpAnyH_take (i:=18) (oi:=⟨some 33,_,_,_,_,_⟩) (v:=?_) rfl (by kernel_rfl) (by kernel_rfl) (by kernel_rfl) (fun _ _ _ h=>h) (Or.inl ⟨by rfl,?_⟩) (by assumption) ?_
      rotate_left
      ·(intro w hSw;refine Eq.trans (exec_sle _ _ (by rfl) (by rfl) (by rfl) hb) ?_;with_reducible rfl)
      try simp only[Act.put,List.setIfInBounds_toArray,List.set_cons_zero,List.set_cons_succ]
      refine wpAnyH_take (i:=19) (oi:=⟨some 34,_,_,_,_,_⟩) (v:=?_) rfl (by kernel_rfl) (by kernel_rfl) (by kernel_rfl) (fun _ _ _ h=>h) (Or.inl ⟨by rfl,?_⟩) (by assumption) ?_
      rotate_left
      ·(intro w hSw;(try dsimp only at hSw);go_simp;try with_reducible rfl)
      try simp only[Act.put,List.setIfInBounds_toArray,List.set_cons_zero,List.set_cons_succ]
      refine wpAnyH_take (i:=20) (oi:=⟨some 35,_,_,_,_,_⟩) (v:=?_) rfl (by kernel_rfl) (by kernel_rfl) (by kernel_rfl) (fun _ _ _ h=>h) (Or.inl ⟨by rfl,?_⟩) (by assumption) ?_
      rotate_left
      ·(intro w hSw;(try dsimp only at hSw);go_simp;try with_reducible rfl)
      try simp only[Act.put,List.setIfInBounds_toArray,List.set_cons_zero,List.set_cons_succ]
      refine wpAnyH_done (by kernel_rfl) ?_ _
      go_wp2_with fail
      go_ret
      exact⟨by rw[HR.out]<;>rfl,hHeld.out.b⟩
   ·have HR:Hid (r=false):=zH (HNo.out k hlt fun h=>hz (HIf.out.1 h).1)
    have hz2:(z != 0)=true:=by simpa using hz
    refine wp_region_held_drew (S:=(fun W=>Hid (Kn w.heap.size w W [(g2,101,prC key vk vn vf vs)] []))) (by kernel_rfl) ?_ (fun hHeld=>?_)
    ·(try dsimp only);exact zH HK.out.drew
    refine wpAnyH_take (i:=0) (oi:=⟨some 15,_,_,_,_,_⟩) (v:=?_) rfl (by kernel_rfl) (by kernel_rfl) (by kernel_rfl) (fun _ _ _ h=>h) (Or.inl ⟨by rfl,?_⟩) (by assumption) ?_
    rotate_left
    ·(intro w hSw;(try dsimp only at hSw);go_simp;try with_reducible rfl)
    try simp only[Act.put,List.setIfInBounds_toArray,List.set_cons_zero,List.set_cons_succ]
    refine wpAnyH_take (i:=1) (oi:=⟨some 16,_,_,_,_,_⟩) (v:=?_) rfl (by kernel_rfl) (by kernel_rfl) (by kernel_rfl) (fun _ _ _ h=>h) (Or.inl ⟨by rfl,?_⟩) (by assumption) ?_
    rotate_left
    ·(intro w hSw;refine Eq.trans (kexec_ppk hSw 0 _ (by rfl) (by rfl) (by rfl)) ?_;with_reducible rfl)
    try simp only[Act.put,List.setIfInBounds_toArray,List.set_cons_zero,List.set_cons_succ]
    refine wpAnyH_take (i:=2) (oi:=⟨some 17,_,_,_,_,_⟩) (v:=?_) rfl (by kernel_rfl) (by kernel_rfl) (by kernel_rfl) (fun _ _ _ h=>h) (Or.inl ⟨by rfl,?_⟩) (by assumption) ?_
    rotate_left
    ·(intro w hSw;(try dsimp only at hSw);go_simp;try with_reducible rfl)
    try simp only[Act.put,List.setIfInBounds_toArray,List.set_cons_zero,List.set_cons_succ]
    refine wpAnyH_take (i:=3) (oi:=⟨some 18,_,_,_,_,_⟩) (v:=?_) rfl (by kernel_rfl) (by kernel_rfl) (by kernel_rfl) (fun _ _ _ h=>h) (Or.inl ⟨by rfl,?_⟩) (by assumption) ?_
    rotate_left
    ·(intro w hSw;refine Eq.trans (kexec_ppv hSw 0 _ (by rfl) (by rfl) (by rfl)) ?_;with_reducible rfl)
    try simp only[Act.put,List.setIfInBounds_toArray,List.set_cons_zero,List.set_cons_succ]
    refine wpAnyH_ready (rs:=[4]) (by kernel_rfl) (by simp) ?_
    refine AllReadyH.cons (o:=⟨some 19,_,_,_,_,_⟩) rfl (fun K hK=>?_) AllReadyH.nil
    go_simp
    go_at_call 84
    refine(HCk.out _).mono ?_;rintro e w5 ⟨rfl,b5⟩;have hs:=zH (hHeld.out.call b5);clear b5
    refine hK.out _ _ hs (fun hHeld=>?_)
    clear hK K
    try simp only[ap1,ap2,ap3,ap4,ap5]
    refine wpAnyH_take (i:=5) (oi:=⟨some 20,_,_,_,_,_⟩) (v:=?_) rfl (by kernel_rfl) (by kernel_rfl) (by kernel_rfl) (fun _ _ _ h=>h) (Or.inl ⟨by rfl,?_⟩) (by assumption) ?_
    rotate_left
    ·(intro w hSw;(try dsimp only at hSw);go_simp;try with_reducible rfl)
    try simp only[Act.put,List.setIfInBounds_toArray,List.set_cons_zero,List.set_cons_succ]
    refine wpAnyH_take (i:=6) (oi:=⟨some 21,_,_,_,_,_⟩) (v:=?_) rfl (by kernel_rfl) (by kernel_rfl) (by kernel_rfl) (fun _ _ _ h=>h) (Or.inl ⟨by rfl,?_⟩) (by assumption) ?_
    rotate_left
    ·(intro w hSw;(try dsimp only at hSw);go_simp;try with_reducible rfl)
    try simp only[Act.put,List.setIfInBounds_toArray,List.set_cons_zero,List.set_cons_succ]
    refine wpAnyH_take (i:=7) (oi:=⟨some 22,_,_,_,_,_⟩) (v:=undef) rfl (by kernel_rfl) (by kernel_rfl) (by kernel_rfl) (fun _ _ _ h=>h) (Or.inr ⟨by rfl,rfl⟩) (by assumption) ?_
    try simp only[Act.put,List.setIfInBounds_toArray,List.set_cons_zero,List.set_cons_succ]
    refine wpAnyH_take (i:=8) (oi:=⟨some 23,_,_,_,_,_⟩) (v:=undef) rfl (by kernel_rfl) (by kernel_rfl) (by kernel_rfl) (fun _ _ _ h=>h) (Or.inr ⟨by rfl,rfl⟩) (by assumption) ?_
    try simp only[Act.put,List.setIfInBounds_toArray,List.set_cons_zero,List.set_cons_succ]
    refine wpAnyH_take (i:=9) (oi:=⟨some 24,_,_,_,_,_⟩) (v:=undef) rfl (by kernel_rfl) (by kernel_rfl) (by kernel_rfl) (fun _ _ _ h=>h) (Or.inr ⟨by rfl,rfl⟩) (by assumption) ?_
    try simp only[Act.put,List.setIfInBounds_toArray,List.set_cons_zero,List.set_cons_succ]
    refine wpAnyH_take (i:=10) (oi:=⟨some 25,_,_,_,_,_⟩) (v:=undef) rfl (by kernel_rfl) (by kernel_rfl) (by kernel_rfl) (fun _ _ _ h=>h) (Or.inr ⟨by rfl,rfl⟩) (by assumption) ?_
    try simp only[Act.put,List.setIfInBounds_toArray,List.set_cons_zero,List.set_cons_succ]
    refine wpAnyH_take (i:=11) (oi:=⟨some 26,_,_,_,_,_⟩) (v:=undef) rfl (by kernel_rfl) (by kernel_rfl) (by kernel_rfl) (fun _ _ _ h=>h) (Or.inr ⟨by rfl,rfl⟩) (by assumption) ?_
    try simp only[Act.put,List.setIfInBounds_toArray,List.set_cons_zero,List.set_cons_succ]
    refine wpAnyH_take (i:=12) (oi:=⟨some 27,_,_,_,_,_⟩) (v:=undef) rfl (by kernel_rfl) (by kernel_rfl) (by kernel_rfl) (fun _ _ _ h=>h) (Or.inr ⟨by rfl,rfl⟩) (by assumption) ?_
    try simp only[Act.put,List.setIfInBounds_toArray,List.set_cons_zero,List.set_cons_succ]
    refine wpAnyH_take (i:=13) (oi:=⟨some 28,_,_,_,_,_⟩) (v:=undef) rfl (by kernel_rfl) (by kernel_rfl) (by kernel_rfl) (fun _ _ _ h=>h) (Or.inr ⟨by rfl,rfl⟩) (by assumption) ?_
    try simp only[Act.put,List.setIfInBounds_toArray,List.set_cons_zero,List.set_cons_succ]
    refine wpAnyH_take (i:=14) (oi:=⟨some 29,_,_,_,_,_⟩) (v:=undef) rfl (by kernel_rfl) (by kernel_rfl) (by kernel_rfl) (fun _ _ _ h=>h) (Or.inr ⟨by rfl,rfl⟩) (by assumption) ?_
    try simp only[Act.put,List.setIfInBounds_toArray,List.set_cons_zero,List.set_cons_succ]
    refine wpAnyH_take (i:=15) (oi:=⟨some 30,_,_,_,_,_⟩) (v:=undef) rfl (by kernel_rfl) (by kernel_rfl) (by kernel_rfl) (fun _ _ _ h=>h) (Or.inr ⟨by rfl,rfl⟩) (by assumption) ?_
    try simp only[Act.put,List.setIfInBounds_toArray,List.set_cons_zero,List.set_cons_succ]
    refine wpAnyH_take (i:=16) (oi:=⟨some 31,_,_,_,_,_⟩) (v:=undef) rfl (by kernel_rfl) (by kernel_rfl) (by kernel_rfl) (fun _ _ _ h=>h) (Or.inr ⟨by rfl,rfl⟩) (by assumption) ?_
    try simp only[Act.put,List.setIfInBounds_toArray,List.set_cons_zero,List.set_cons_succ]
    refine wpAnyH_take (i:=17) (oi:=⟨some 32,_,_,_,_,_⟩) (v:=undef) rfl (by kernel_rfl) (by kernel_rfl) (by kernel_rfl) (fun _ _ _ h=>h) (Or.inr ⟨by rfl,rfl⟩) (by assumption) ?_
    try simp only[Act.put,List.setIfInBounds_toArray,List.set_cons_zero,List.set_cons_succ]
    refine wpAnyH_take (i:=18) (oi:=⟨some 33,_,_,_,_,_⟩) (v:=undef) rfl (by kernel_rfl) (by kernel_rfl) (by kernel_rfl) (fun _ _ _ h=>h) (Or.inr ⟨by rfl,rfl⟩) (by assumption) ?_
    try simp only[Act.put,List.setIfInBounds_toArray,List.set_cons_zero,List.set_cons_succ]
    refine wpAnyH_take (i:=19) (oi:=⟨some 34,_,_,_,_,_⟩) (v:=undef) rfl (by kernel_rfl) (by kernel_rfl) (by kernel_rfl) (fun _ _ _ h=>h) (Or.inr ⟨by rfl,rfl⟩) (by assumption) ?_
    try simp only[Act.put,List.setIfInBounds_toArray,List.set_cons_zero,List.set_cons_succ]
    refine wpAnyH_take (i:=20) (oi:=⟨some 35,_,_,_,_,_⟩) (v:=?_) rfl (by kernel_rfl) (by kernel_rfl) (by kernel_rfl) (fun _ _ _ h=>h) (Or.inl ⟨by rfl,?_⟩) (by assumption) ?_
    rotate_left
    ·(intro w hSw;(try dsimp only at hSw);go_simp;try with_reducible rfl)
    try simp only[Act.put,List.setIfInBounds_toArray,List.set_cons_zero,List.set_cons_succ]
    refine wpAnyH_done (by kernel_rfl) ?_ _
    go_wp2_with fail
    go_ret
    exact⟨by rw[HR.out]<;>rfl,hHeld.out.b⟩
  ·obtain rfl:k=n:=by omega
   have HR:Hid (r=true):=zH (HYes.out HGo.out)
   go_wp2_with fail
   go_ret
   exact⟨by rw[HR.out]<;>rfl,HK.out.b⟩
end
section
open Go.RowKit
theorem vchk_any(v:Val.V)(w:World)(hf:vF v):
  Calls Try.prog 85 #[vv v] w (IsE (Que.vchk v) w):=by
 have HC:=zH (fun W=>check_any v W hf)
 clear hf
 unfold Que.vchk
 obtain⟨k,n,f,s⟩:=v
 unfold vv IsE at *
 simp only at HC ⊢
 generalize Val.chk ⟨k,n,f,s⟩=z at *
 have HK:=kn1 w 26 (vC k n f s)
 unfold vC at HK
 by_cases hk:k=0
 ·subst hk
  rw[if_pos rfl]
  go_enter Try.func85,Try.ntmps85
  go_wp2_with fail
  go_ret
  exact⟨rfl,HK.out.b⟩
 ·rw[if_neg hk]
  have hk2:(k==0)=false:=by simpa using hk
  go_enter Try.func85,Try.ntmps85
  go_wp2_with (first|refine wpList_of_exec (by rfl) (kexec_vv HK 0 _ rfl rfl rfl) ?_)
  refine(HC.out _).mono ?_;rintro e w1 ⟨rfl,b1⟩
  replace HK:=hkC HK b1
  go_wp2_with fail
  go_ret
  exact⟨rfl,HK.out.b⟩
theorem qright_any(N:Int)(A:Option Addr)(c n:Nat)(l:List Val.V)(w:World)(hs:Sls vaLay vF w A n c l):
  Calls Try.prog 74 #[.int .i64 N,.slice A n c] w (IsB (decide (Que.Right N l)) w):=by
 have HK:=zH (Kn.start w)
 by_cases h1:N<1
 ·have hd:decide (Que.Right N l)=false:=decide_eq_false fun h=>by have:=h.lo;omega
  rw[hd]
  clear hs hd
  go_enter Try.func74,Try.ntmps74
  go_wp2_with fail
  go_ret
  exact⟨rfl,HK.out.b⟩
 by_cases h2:8<N
 ·have hd:decide (Que.Right N l)=false:=decide_eq_false fun h=>by have:=h.hi;omega
  rw[hd]
  clear hs hd
  go_enter Try.func74,Try.ntmps74
  go_wp2_with fail
  go_ret
  exact⟨rfl,HK.out.b⟩
 by_cases h3:N<(n:Int)
 ·have hd:decide (Que.Right N l)=false:=decide_eq_false fun h=>by have:=h.len;rw[hs.len] at this;omega
  rw[hd]
  clear hs hd
  go_enter Try.func74,Try.ntmps74
  go_wp2_with fail
  go_ret
  exact⟨rfl,HK.out.b⟩
 obtain⟨hno,hyes⟩:=Que.right_told (n:=N) (l:=l) hs.len (by omega) (by omega) (by omega)
 have HNo:=zH hno
 have HYes:=zH hyes
 have HS:=zH hs
 have hn9:n<9:=by omega
 clear hs hno hyes
 generalize decide (Que.Right N l)=r at *
 go_enter Try.func74,Try.ntmps74
 go_wp2_with fail
 go_loopw [21] (fun vi wr=>∃k:Nat,k≤n∧vi=.int .i64 k∧Hid (∀(i:Nat) v,i<k→l[i]?=some v→Que.vchk v=0)∧Hid (Kn w.heap.size w wr [] [])) (fun vi _=>n-(intOf vi).toNat)
 case atStart=>exact⟨0,Nat.zero_le _,rfl,zH (fun i v hi=>by omega),HK⟩
 case round=>
  clear HK
  obtain⟨k,hk,rfl,HGo,HK⟩:=hrel
  have hk1:(0:Int)≤(k:Int):=by omega
  by_cases hlt:k<n
  ·have hk2:(k:Int)<(n:Int):=by omega
   have hk3:k<9223372036854775807:=by omega
   obtain⟨x,hx,hf⟩:=HS.out.get hlt
   obtain⟨b,o,rfl,hat⟩:=HS.out.at (Nat.lt_of_le_of_lt (Nat.zero_le _) hlt)
   have HX:=zH (fun W hW=>hat W hW k x hx)
   have HV:=zH (fun W=>vchk_any x W hf)
   have HN:=zH (HNo.out k x hx)
   have HGk:Hid (Que.vchk x=0→∀(i:Nat) v,i<k+1→l[i]?=some v→Que.vchk v=0):=zH fun h i v hi hv=>by
    by_cases hik:i=k
    ·subst hik;rw[hx] at hv;injection hv with hv;subst hv;exact h
    ·exact HGo.out i v (by omega) hv
   clear hat hx hf
   obtain⟨vk,vn,vf,vs⟩:=x
   unfold vv IsE at HV
   simp only at HV
   generalize Que.vchk ⟨vk,vn,vf,vs⟩=z at *
   go_wp2_with (first|refine wpList_of_exec (by rfl) (exec_lva (off:=o+k*4) _ (by rfl) (by rfl) (HX.out _ HK.out.b)) ?_|(refine wpList_akv HK rfl rfl ?_;intro _ g2 HK';simp only[lcA,lnA] at HK';replace HK:=HK';clear HK')|(refine wpList_sv (f2:=vf) HK 0 rfl _ _ rfl rfl rfl rfl ?_;intro _ HK';simp only[List.set] at HK';replace HK:=HK';clear HK')|refine wpList_of_exec (by rfl) (kexec_vv HK 0 _ (by rfl) (by rfl) (by rfl)) ?_)
   refine(HV.out _).mono ?_;rintro e w1 ⟨rfl,b1⟩
   replace HK:=hkC HK b1;clear b1
   by_cases hz:z=0
   ·subst hz
    replace HGk:=zH (HGk.out rfl)
    go_wp2_with (first|refine wpList_of_exec (by rfl) (exec_add1 (j:=k) _ (by rfl) (by rfl) hk3) ?_)
    exact⟨⟨k+1,hlt,rfl,HGk,zH (HK.out.takeL 0)⟩,by simp[intOf];omega⟩
   ·have hz2:(z != 0)=true:=by simpa using hz
    have HR:=zH (HN.out hz)
    go_wp2_with fail
    go_ret
    exact⟨by rw[HR.out]<;>rfl,HK.out.b⟩
  ·obtain rfl:k=n:=by omega
   have HR:Hid (r=true):=zH (HYes.out HGo.out)
   go_wp2_with fail
   go_ret
   exact⟨by rw[HR.out]<;>rfl,HK.out.b⟩
end
section
open Go.RowKit
theorem cmr_any(x:Rf)(w:World):Calls Try.prog 46 #[.agg #[.int .i64 x.c,.int .i64 x.e,.int .i64 x.r]] w (IsB (decide (Lck.ok x)) w):=by
 have HE:Hid (∀q:Bool,(q=true↔(0≤x.c∧x.c<5∧1≤x.e∧0≤x.r))→q=decide (Lck.ok x)):=zH fun q hq=>by
  rw[Bool.eq_iff_iff,hq,decide_eq_true_eq]
  exact Iff.rfl
 generalize decide (Lck.ok x)=r at *
 obtain⟨c,ep,rq⟩:=x
 simp only at HE ⊢
 have HK:=kn1 w 74 #[.int .i64 c,.int .i64 ep,.int .i64 rq]
 go_enter Try.func46,Try.ntmps46
 go_wp2_with fail
 all_goals
  go_ret
  refine⟨congrArg (fun b=>Ending.returned (.bool b)) (HE.out _ ?_),HK.out.b⟩
  clear HE HK
  simp_all<;>omega
end
section
open Go.RowKit
theorem asked_any(A:Option Addr)(c n:Nat)(l:List Rf)(q:Int)(w:World)(hs:Sls rfLay rF w A n c l):
  Calls Try.prog 86 #[.slice A n c,.int .i64 q] w (IsB (Lck.asked l q) w):=by
 obtain⟨hyes,hno⟩:=Lck.asked_told hs.len q
 have HYes:=zH hyes
 have HNo:=zH hno
 have HS:=zH hs
 have HK:=zH (Kn.start w)
 have hn63:n<9223372036854775807:=by
  have h:n*24≤140737488355328:=hs.big
  omega
 clear hs hyes hno
 generalize Lck.asked l q=r at *
 go_enter Try.func86,Try.ntmps86
 go_wp2_with fail
 go_loopw [9] (fun vi wr=>∃k:Nat,k≤n∧vi=.int .i64 k∧Hid (∀(i:Nat) x,i<k→l[i]?=some x→¬x.c=q)∧Hid (Kn w.heap.size w wr [] [])) (fun vi _=>n-(intOf vi).toNat)
 case atStart=>exact⟨0,Nat.zero_le _,rfl,zH (fun i v hi=>by omega),HK⟩
 case round=>
  clear HK
  obtain⟨k,hk,rfl,HGo,HK⟩:=hrel
  have hk1:(0:Int)≤(k:Int):=by omega
  by_cases hlt:k<n
  ·have hk2:(k:Int)<(n:Int):=by omega
   have hk3:k<9223372036854775807:=by omega
   obtain⟨x,hx,_⟩:=HS.out.get hlt
   obtain⟨b,o,rfl,hat⟩:=HS.out.at (Nat.lt_of_le_of_lt (Nat.zero_le _) hlt)
   have HX:=zH (fun W hW=>hat W hW k x hx)
   have HY:=zH (HYes.out k x hx)
   have HGk:Hid (¬x.c=q→∀(i:Nat) v,i<k+1→l[i]?=some v→¬v.c=q):=zH fun h i v hi hv=>by
    by_cases hik:i=k
    ·subst hik;rw[hx] at hv;injection hv with hv;subst hv;exact h
    ·exact HGo.out i v (by omega) hv
   clear hat hx
   by_cases he:x.c=q
   ·have HR:=zH (HY.out he)
    have he2:(x.c==q)=true:=by simpa using he
    clear he HGk HY
    go_wp2_with (first|refine wpList_exe (exec_lr (x:=x) (off:=o+k*3) _ (by rfl) (by rfl) (HX.out _ HK.out.b)) (by rfl) ?_|(refine wpList_akr HK rfl rfl ?_;intro _ g2 HK';simp only[lcA,lnA] at HK';replace HK:=HK';clear HK')|(refine wpList_sr HK 0 rfl _ _ rfl rfl rfl rfl ?_;intro _ HK';simp only[List.set] at HK';replace HK:=HK';clear HK')|refine wpList_exe (kexec_lc0 HK 0 _ (by rfl) (by rfl) (by rfl)) (by rfl) ?_)
    go_ret
    exact⟨by rw[HR.out]<;>rfl,HK.out.b⟩
   ·have he2:(x.c==q)=false:=by simpa using he
    replace HGk:=zH (HGk.out he)
    clear he HY
    go_wp2_with (first|refine wpList_exe (exec_lr (x:=x) (off:=o+k*3) _ (by rfl) (by rfl) (HX.out _ HK.out.b)) (by rfl) ?_|(refine wpList_akr HK rfl rfl ?_;intro _ g2 HK';simp only[lcA,lnA] at HK';replace HK:=HK';clear HK')|(refine wpList_sr HK 0 rfl _ _ rfl rfl rfl rfl ?_;intro _ HK';simp only[List.set] at HK';replace HK:=HK';clear HK')|refine wpList_exe (kexec_lc0 HK 0 _ (by rfl) (by rfl) (by rfl)) (by rfl) ?_|refine wpList_exe (exec_add1 (j:=k) _ (by rfl) (by rfl) hk3) (by rfl) ?_)
    exact⟨⟨k+1,hlt,rfl,HGk,zH (HK.out.takeL 0)⟩,by simp[intOf];omega⟩
  ·obtain rfl:k=n:=by omega
   have HR:=zH (HNo.out HGo.out)
   go_wp2_with fail
   go_ret
   exact⟨by rw[HR.out]<;>rfl,HK.out.b⟩
end
end Go.Proofs.Ytieoeendnccafaa
