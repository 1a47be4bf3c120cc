/- What slices.Grow of the nil slice, slices.Concat of items return. No condition but those named. -/
import Derived.Test.YtieoeendnccafaaGreatMTK
import Derived.Test.YtieoeendnccafaaGreatMAH
import Derived.Test.YtieoeendnccafaaGreatMAI
import Derived.Lib.AppendZeros
set_option linter.unusedSimpArgs false
set_option linter.unusedVariables false
set_option maxRecDepth 100000
set_option maxHeartbeats 25600000
namespace Go.Proofs.YtieoeendnccafaaGreat
section
open Go.RowKit
def iF(_:Itm.It):Prop:=True
theorem igrow_any(n:Nat)(w:World)(h32:n*32≤140737488355328):Calls Tryz.prog 214 #[.slice none 0 0,.int .i64 n] w fun e w'=>∃A c,e=.returned (.slice A 0 c)∧itemLay.Own w.heap.size w' (.slice A 0 c) []∧Below w.heap.size w w':=by
 by_cases h0:n=0
 ·subst h0
  have HK:=zH (Kn.start w)
  clear h32
  go_enter Tryz.func214,Tryz.ntmps214
  go_wp2_with fail
  go_ret
  exact⟨_,_,rfl,Lay.Own.none _ _,HK.out.b⟩
 obtain⟨i0,hi,hz0,hz1,hz2⟩:=info_parts itemLay.info
 have hc1:=grownCap_ge w n 0 87
 have hr:=Lib.run_append_nil_zeros (P:=Tryz.prog) w 84 3 84 87 i0 itemLay.z .i64 .i64 itemLay.und Tryz.underlying3 hi hz0 n (by omega) (by rw[hz1];decide) (by omega) (by rw[hz2];show n*32≤_;omega)
 have HR:=zH hr
 have hc2:=grownCap_le_maxLen w n 0 87 (by unfold maxLen;omega)
 generalize grownCap w n 0 87=G at *
 have HO:Hid (itemLay.Own w.heap.size (w.drew.alloc (.cells (Builtin.zeroCells itemLay.z.cells n++Builtin.zeroCells itemLay.z.cells (G-n)) 87)) (.slice (some ⟨w.heap.size,0,none⟩) 0 G) []):=by
  have:=World.ownsRow_made (base:=w.heap.size) (e:=87) (size:=3) w.drew (Builtin.zeroCells itemLay.z.cells n++Builtin.zeroCells itemLay.z.cells (G-n)) G (Nat.le_refl _) hc2 (by
   rw[Array.size_append,size_zeroCells,size_zeroCells]
   have:itemLay.z.cells.size=3:=rfl
   rw[this];omega)
  exact zH this
 have HB:Hid (Below w.heap.size w (w.drew.alloc (.cells (Builtin.zeroCells itemLay.z.cells n++Builtin.zeroCells itemLay.z.cells (G-n)) 87))):=zH ((Below.refl _ w).drew.alloc (Nat.le_refl _) _)
 generalize w.drew.alloc (.cells (Builtin.zeroCells itemLay.z.cells n++Builtin.zeroCells itemLay.z.cells (G-n)) 87)=wz at *
 clear hr hi hz0 hz1 hz2 hc1 hc2
 have h1:¬((n:Int)<0):=by omega
 have h2:(0:Int)<(n:Int):=by omega
 have h3:wrap64 (n:Int)=(n:Int):=by unfold wrap64;omega
 go_enter Tryz.func214,Tryz.ntmps214
 go_wp2_with (first|(at_builtin;refine Lib.wpList_append_run _ rfl _ _ _ _ rfl _ _ rfl rfl _ _ HR.out ?_))
 go_ret
 exact⟨_,_,rfl,HO.out,HB.out⟩
theorem iconcat_any:Joins Tryz.prog 156 itemLay iF:=by
 intro g m ps w hm hb hg hc hs ht
 replace ht:(catP ps).length*32≤140737488355328:=ht
 have HGo:Hid (∀k,k<m→∃p,ps[k]?=some p∧Sls itemLay iF w p.A p.n p.c p.l∧∀W,Below w.heap.size w W→W.cell? ⟨g,k,none⟩=some (.slice p.A p.n p.c)):=zH fun k hk=>by
  obtain⟨p,hp⟩:=Lay.get_of (l:=ps) (k:=k) (by rw[hm];exact hk)
  exact⟨p,hp,hs p (List.mem_of_getElem? hp),fun W hW=>(hW.cell (p:=⟨g,k,none⟩) hg).trans (hc k p hp)⟩
 have HLen:Hid (∀k,(catP (ps.take k)).length*32≤140737488355328):=zH fun k=>Nat.le_trans (Nat.mul_le_mul_right _ (catP_le ps k)) ht
 have HTake:Hid (ps.take m=ps):=zH (by rw[← hm];exact List.take_length)
 have HG:=zH (fun W=>igrow_any (catP ps).length W ht)
 clear hc hs ht hm hg
 go_enter Tryz.func156,Tryz.ntmps156
 go_wp2_with fail
 go_loopw [3,11] (fun vs vi wr=>∃k:Nat,k≤m∧vs=.int .i64 ((catP (ps.take k)).length:Nat)∧vi=.int .i64 k∧w=wr) (fun _ vi _=>m-(intOf vi).toNat)
 case atStart=>exact⟨0,Nat.zero_le _,rfl,rfl,rfl⟩
 case round=>
  obtain⟨k,hk,rfl,rfl,rfl⟩:=hrel
  by_cases hlt:k<m
  ·obtain⟨p,hp,hsl,hcl⟩:=HGo.out k hlt
   have hcell:=hcl _ (Below.refl _ _)
   have ht:=HLen.out (k+1)
   have he:=catP_more hp
   have hpn:=hsl.len
   rw[he,List.length_append] at ht
   have HE:Hid ((catP (ps.take (k+1))).length=(catP (ps.take k)).length+p.n):=zH (by rw[he,List.length_append,hpn])
   rw[hpn] at ht
   clear he hp hsl hcl hpn
   obtain⟨A,n,c,l⟩:=p
   simp only at hcell ht HE
   generalize (catP (ps.take k)).length=q at *
   have h1:wrap64 ((q:Int)+(n:Int))=((q+n:Nat):Int):=by unfold wrap64;omega
   have h2:¬(((q+n:Nat):Int)<0):=by omega
   have h3:¬((q:Int)+(n:Int)<0):=by omega
   go_wp2_with fail
   exact⟨⟨k+1,by omega,by rw[HE.out];go_num,by go_num,by simp⟩,by simp[intOf];omega⟩
  ·obtain rfl:k=m:=by omega
   rw[HTake.out]
   go_wp2_with fail
   refine(HG.out _).mono ?_;rintro e w1 ⟨A0,c0,rfl,o1,b1⟩
   have HK:=zH ((Kn.start _).called b1 o1)
   simp only[lnA] at HK
   clear b1 o1
   go_wp2_with fail
   go_loopw [6,27] (fun vs vi wr=>∃(q:Nat) (A:Option Addr) (c N:Nat),q≤k∧Hid ((catP (ps.take q)).length=N)∧vs=.slice A N c∧vi=.int .i64 q∧Hid (Kn w.heap.size w wr [] [row itemLay (.slice A N c) (catP (ps.take q))])) (fun _ vi _=>k-(intOf vi).toNat)
   case atStart=>exact⟨0,A0,c0,0,Nat.zero_le _,zH rfl,rfl,rfl,HK⟩
   case round=>
    clear HK
    obtain⟨q,A,c,N,hq,hN,rfl,rfl,HK⟩:=hrel
    by_cases hlt:q<k
    ·obtain⟨p,hp,hsl,hcl⟩:=HGo.out q hlt
     have hcell:=hcl _ HK.out.b
     have HR:=zH (let h:=hsl.later HK.out.b;And.intro h.rd h.nl)
     have hlen:=HLen.out (q+1)
     have he:=catP_more hp
     rw[he,List.length_append,hN.out] at hlen
     have HE:=zH he
     have HPl:Hid (p.n=p.l.length):=zH hsl.len.symm
     have HL:Hid ((catP (ps.take q)).length+p.l.length≤9223372036854775807∧((catP (ps.take q)).length+p.l.length)*itemLay.bytes≤211106232532992):=zH ⟨by rw[hN.out];omega,by show _*32≤_;rw[hN.out];omega⟩
     have HN2:Hid ((catP (ps.take q)++p.l).length=N+p.l.length):=zH (by rw[List.length_append,hN.out])
     clear he hp hlen hsl hcl
     obtain⟨Ap,np,cp,lp⟩:=p
     simp only at hcell HR HPl HL HN2 HE
     go_wp2_with (first|(at_builtin;refine wpList_kmore HK itemLay 0 rfl _ _ rfl rfl rfl lp rfl HPl.out HR HL (N:=N+lp.length) HN2 ?_;intro A4 c4 _ HK';simp only[List.set] at HK';replace HK:=HK';clear HK'))
     refine⟨⟨q+1,A4,c4,N+lp.length,by omega,zH (by rw[HE.out,HN2.out]),rfl,by go_num,?_⟩,by simp[intOf];omega⟩
     rw[HE.out]
     exact HK
    ·obtain rfl:q=k:=by omega
     rw[HTake.out] at HK hN
     obtain rfl:=hN.out
     go_wp2_with fail
     go_ret
     exact⟨A,_,c,rfl,HK.out.own 0 rfl,HK.out.b⟩
end
end Go.Proofs.YtieoeendnccafaaGreat
