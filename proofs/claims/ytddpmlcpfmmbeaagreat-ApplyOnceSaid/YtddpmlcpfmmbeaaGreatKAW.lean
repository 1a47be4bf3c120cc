/- What take, free return: a lock that is asked for, and given up. No condition but those named. -/
import Derived.Test.YtddpmlcpfmmbeaaGreatTk
import Derived.Test.YtddpmlcpfmmbeaaGreatKAV
import Derived.Test.YtddpmlcpfmmbeaaGreatKAI
import Derived.Test.YtddpmlcpfmmbeaaGreatKAU
import Derived.Test.YtddpmlcpfmmbeaaGreatKAK
import Derived.Test.YtddpmlcpfmmbeaaGreatKAO
import Derived.Lib.AppendZeros
import Derived.Deep.CutBlock
import Derived.Deep.DeepCutAuto
set_option linter.unusedSimpArgs false
set_option linter.unusedVariables false
set_option maxRecDepth 100000
set_option maxHeartbeats 25600000
namespace Go.Proofs.YtddpmlcpfmmbeaaGreat
section
open Go.RowKit
theorem pgrow_any(n:Nat)(w:World)(hB0:n*56≤140737488355328):Calls Tryz.prog 74 #[.slice none 0 0,.int .i64 n] w fun e w'=>∃A c,e=.returned (.slice A 0 c)∧prLay.Own w.heap.size w' (.slice A 0 c) []∧Below w.heap.size w w':=by
 by_cases h0:n=0
 ·subst h0
  have HK:=zH (Kn.start w)
  clear hB0
  go_enter Tryz.func74,Tryz.ntmps74
  go_wp2_with fail
  go_ret
  exact⟨_,_,rfl,Lay.Own.none _ _,HK.out.b⟩
 obtain⟨i0,hi,hz0,hz1,hz2⟩:=info_parts prLay.info
 have hc1:=grownCap_ge w n 0 85
 have hr:=Lib.run_append_nil_zeros (P:=Tryz.prog) w 54 3 54 85 i0 prLay.z .i64 .i64 prLay.und Tryz.underlying3 hi hz0 n (by omega) (by rw[hz1];decide) (by omega) (by rw[hz2];show n*56≤_;omega)
 have HR:=zH hr
 have hc2:=grownCap_le_maxLen w n 0 85 (by unfold maxLen;omega)
 generalize grownCap w n 0 85=G at *
 have HO:Hid (prLay.Own w.heap.size (w.drew.alloc (.cells (Builtin.zeroCells prLay.z.cells n++Builtin.zeroCells prLay.z.cells (G-n)) 85)) (.slice (some ⟨w.heap.size,0,none⟩) 0 G) []):=by
  have:=World.ownsRow_made (base:=w.heap.size) (e:=85) (size:=5) w.drew (Builtin.zeroCells prLay.z.cells n++Builtin.zeroCells prLay.z.cells (G-n)) G (Nat.le_refl _) hc2 (by
   rw[Array.size_append,size_zeroCells,size_zeroCells]
   have:prLay.z.cells.size=5:=rfl
   rw[this];omega)
  exact zH this
 have HB:Hid (Below w.heap.size w (w.drew.alloc (.cells (Builtin.zeroCells prLay.z.cells n++Builtin.zeroCells prLay.z.cells (G-n)) 85))):=zH ((Below.refl _ w).drew.alloc (Nat.le_refl _) _)
 generalize w.drew.alloc (.cells (Builtin.zeroCells prLay.z.cells n++Builtin.zeroCells prLay.z.cells (G-n)) 85)=wz at *
 clear hr hi hz0 hz1 hz2 hc1 hc2
 have h1:¬((n:Int)<0):=by omega
 have h2:(0:Int)<(n:Int):=by omega
 have h3:wrap64 (n:Int)=(n:Int):=by unfold wrap64;omega
 go_enter Tryz.func74,Tryz.ntmps74
 go_wp2_with (first|(at_builtin;refine Lib.wpList_append_run _ rfl _ _ _ _ rfl _ _ rfl rfl _ _ HR.out ?_))
 go_ret
 exact⟨_,_,rfl,HO.out,HB.out⟩
theorem pconcat_any:Joins Tryz.prog 44 prLay prF:=by
 intro g m ps w hm hb hg hc hs ht
 replace ht:(catP ps).length*56≤140737488355328:=ht
 have HGo:Hid (∀k,k<m→∃p,ps[k]?=some p∧Sls prLay prF w p.A p.n p.c p.l∧∀W,Below w.heap.size w W→W.cell? ⟨g,k,none⟩=some (.slice p.A p.n p.c)):=zH fun k hk=>by
  obtain⟨p,hp⟩:=Lay.get_of (l:=ps) (k:=k) (by rw[hm];exact hk)
  exact⟨p,hp,hs p (List.mem_of_getElem? hp),fun W hW=>(hW.cell (p:=⟨g,k,none⟩) hg).trans (hc k p hp)⟩
 have HLen:Hid (∀k,(catP (ps.take k)).length*56≤140737488355328):=zH fun k=>Nat.le_trans (Nat.mul_le_mul_right _ (catP_le ps k)) ht
 have HTake:Hid (ps.take m=ps):=zH (by rw[← hm];exact List.take_length)
 have HG:=zH (fun W=>pgrow_any (catP ps).length W ht)
 clear hc hs ht hm hg
 go_enter Tryz.func44,Tryz.ntmps44
 go_wp2_with fail
 go_loopw [3,11] (fun vs vi wr=>∃k:Nat,k≤m∧vs=.int .i64 ((catP (ps.take k)).length:Nat)∧vi=.int .i64 k∧w=wr) (fun _ vi _=>m-(intOf vi).toNat)
 case atStart=>exact⟨0,Nat.zero_le _,rfl,rfl,rfl⟩
 case round=>
  obtain⟨k,hk,rfl,rfl,rfl⟩:=hrel
  by_cases hlt:k<m
  ·obtain⟨p,hp,hsl,hcl⟩:=HGo.out k hlt
   have hcell:=hcl _ (Below.refl _ _)
   have ht:=HLen.out (k+1)
   have he:=catP_more hp
   have hpn:=hsl.len
   rw[he,List.length_append] at ht
   have HE:Hid ((catP (ps.take (k+1))).length=(catP (ps.take k)).length+p.n):=zH (by rw[he,List.length_append,hpn])
   rw[hpn] at ht
   clear he hp hsl hcl hpn
   obtain⟨A,n,c,l⟩:=p
   simp only at hcell ht HE
   generalize (catP (ps.take k)).length=q at *
   have h1:wrap64 ((q:Int)+(n:Int))=((q+n:Nat):Int):=by unfold wrap64;omega
   have h2:¬(((q+n:Nat):Int)<0):=by omega
   have h3:¬((q:Int)+(n:Int)<0):=by omega
   go_wp2_with fail
   exact⟨⟨k+1,by omega,by rw[HE.out];go_num,by go_num,by simp⟩,by simp[intOf];omega⟩
  ·obtain rfl:k=m:=by omega
   rw[HTake.out]
   go_wp2_with fail
   refine(HG.out _).mono ?_;rintro e w1 ⟨A0,c0,rfl,o1,b1⟩
   have HK:=zH ((Kn.start _).called b1 o1)
   simp only[lnA] at HK
   clear b1 o1
   go_wp2_with fail
   go_loopw [6,27] (fun vs vi wr=>∃(q:Nat) (A:Option Addr) (c N:Nat),q≤k∧Hid ((catP (ps.take q)).length=N)∧vs=.slice A N c∧vi=.int .i64 q∧Hid (Kn w.heap.size w wr [] [row prLay (.slice A N c) (catP (ps.take q))])) (fun _ vi _=>k-(intOf vi).toNat)
   case atStart=>exact⟨0,A0,c0,0,Nat.zero_le _,zH rfl,rfl,rfl,HK⟩
   case round=>
    clear HK
    obtain⟨q,A,c,N,hq,hN,rfl,rfl,HK⟩:=hrel
    by_cases hlt:q<k
    ·obtain⟨p,hp,hsl,hcl⟩:=HGo.out q hlt
     have hcell:=hcl _ HK.out.b
     have HR:=zH (let h:=hsl.later HK.out.b;And.intro h.rd h.nl)
     have hlen:=HLen.out (q+1)
     have he:=catP_more hp
     rw[he,List.length_append,hN.out] at hlen
     have HE:=zH he
     have HPl:Hid (p.n=p.l.length):=zH hsl.len.symm
     have HL:Hid ((catP (ps.take q)).length+p.l.length≤9223372036854775807∧((catP (ps.take q)).length+p.l.length)*prLay.bytes≤211106232532992):=zH ⟨by rw[hN.out];omega,by show _*56≤_;rw[hN.out];omega⟩
     have HN2:Hid ((catP (ps.take q)++p.l).length=N+p.l.length):=zH (by rw[List.length_append,hN.out])
     clear he hp hlen hsl hcl
     obtain⟨Ap,np,cp,lp⟩:=p
     simp only at hcell HR HPl HL HN2 HE
     go_wp2_with (first|(at_builtin;refine wpList_kmore HK prLay 0 rfl _ _ rfl rfl rfl lp rfl HPl.out HR HL (N:=N+lp.length) HN2 ?_;intro A4 c4 _ HK';simp only[List.set] at HK';replace HK:=HK';clear HK'))
     refine⟨⟨q+1,A4,c4,N+lp.length,by omega,zH (by rw[HE.out,HN2.out]),rfl,by go_num,?_⟩,by simp[intOf];omega⟩
     rw[HE.out]
     exact HK
    ·obtain rfl:q=k:=by omega
     rw[HTake.out] at HK hN
     obtain rfl:=hN.out
     go_wp2_with fail
     go_ret
     exact⟨A,_,c,rfl,HK.out.own 0 rfl,HK.out.b⟩
end
section
open Go.RowKit
theorem vgrow_any(n:Nat)(w:World)(hB0:n*40≤140737488355328):Calls Tryz.prog 75 #[.slice none 0 0,.int .i64 n] w fun e w'=>∃A c,e=.returned (.slice A 0 c)∧vaLay.Own w.heap.size w' (.slice A 0 c) []∧Below w.heap.size w w':=by
 by_cases h0:n=0
 ·subst h0
  have HK:=zH (Kn.start w)
  clear hB0
  go_enter Tryz.func75,Tryz.ntmps75
  go_wp2_with fail
  go_ret
  exact⟨_,_,rfl,Lay.Own.none _ _,HK.out.b⟩
 obtain⟨i0,hi,hz0,hz1,hz2⟩:=info_parts vaLay.info
 have hc1:=grownCap_ge w n 0 26
 have hr:=Lib.run_append_nil_zeros (P:=Tryz.prog) w 55 3 55 26 i0 vaLay.z .i64 .i64 vaLay.und Tryz.underlying3 hi hz0 n (by omega) (by rw[hz1];decide) (by omega) (by rw[hz2];show n*40≤_;omega)
 have HR:=zH hr
 have hc2:=grownCap_le_maxLen w n 0 26 (by unfold maxLen;omega)
 generalize grownCap w n 0 26=G at *
 have HO:Hid (vaLay.Own w.heap.size (w.drew.alloc (.cells (Builtin.zeroCells vaLay.z.cells n++Builtin.zeroCells vaLay.z.cells (G-n)) 26)) (.slice (some ⟨w.heap.size,0,none⟩) 0 G) []):=by
  have:=World.ownsRow_made (base:=w.heap.size) (e:=26) (size:=4) w.drew (Builtin.zeroCells vaLay.z.cells n++Builtin.zeroCells vaLay.z.cells (G-n)) G (Nat.le_refl _) hc2 (by
   rw[Array.size_append,size_zeroCells,size_zeroCells]
   have:vaLay.z.cells.size=4:=rfl
   rw[this];omega)
  exact zH this
 have HB:Hid (Below w.heap.size w (w.drew.alloc (.cells (Builtin.zeroCells vaLay.z.cells n++Builtin.zeroCells vaLay.z.cells (G-n)) 26))):=zH ((Below.refl _ w).drew.alloc (Nat.le_refl _) _)
 generalize w.drew.alloc (.cells (Builtin.zeroCells vaLay.z.cells n++Builtin.zeroCells vaLay.z.cells (G-n)) 26)=wz at *
 clear hr hi hz0 hz1 hz2 hc1 hc2
 have h1:¬((n:Int)<0):=by omega
 have h2:(0:Int)<(n:Int):=by omega
 have h3:wrap64 (n:Int)=(n:Int):=by unfold wrap64;omega
 go_enter Tryz.func75,Tryz.ntmps75
 go_wp2_with (first|(at_builtin;refine Lib.wpList_append_run _ rfl _ _ _ _ rfl _ _ rfl rfl _ _ HR.out ?_))
 go_ret
 exact⟨_,_,rfl,HO.out,HB.out⟩
theorem vconcat_any:Joins Tryz.prog 45 vaLay vF:=by
 intro g m ps w hm hb hg hc hs ht
 replace ht:(catP ps).length*40≤140737488355328:=ht
 have HGo:Hid (∀k,k<m→∃p,ps[k]?=some p∧Sls vaLay vF w p.A p.n p.c p.l∧∀W,Below w.heap.size w W→W.cell? ⟨g,k,none⟩=some (.slice p.A p.n p.c)):=zH fun k hk=>by
  obtain⟨p,hp⟩:=Lay.get_of (l:=ps) (k:=k) (by rw[hm];exact hk)
  exact⟨p,hp,hs p (List.mem_of_getElem? hp),fun W hW=>(hW.cell (p:=⟨g,k,none⟩) hg).trans (hc k p hp)⟩
 have HLen:Hid (∀k,(catP (ps.take k)).length*40≤140737488355328):=zH fun k=>Nat.le_trans (Nat.mul_le_mul_right _ (catP_le ps k)) ht
 have HTake:Hid (ps.take m=ps):=zH (by rw[← hm];exact List.take_length)
 have HG:=zH (fun W=>vgrow_any (catP ps).length W ht)
 clear hc hs ht hm hg
 go_enter Tryz.func45,Tryz.ntmps45
 go_wp2_with fail
 go_loopw [3,11] (fun vs vi wr=>∃k:Nat,k≤m∧vs=.int .i64 ((catP (ps.take k)).length:Nat)∧vi=.int .i64 k∧w=wr) (fun _ vi _=>m-(intOf vi).toNat)
 case atStart=>exact⟨0,Nat.zero_le _,rfl,rfl,rfl⟩
 case round=>
  obtain⟨k,hk,rfl,rfl,rfl⟩:=hrel
  by_cases hlt:k<m
  ·obtain⟨p,hp,hsl,hcl⟩:=HGo.out k hlt
   have hcell:=hcl _ (Below.refl _ _)
   have ht:=HLen.out (k+1)
   have he:=catP_more hp
   have hpn:=hsl.len
   rw[he,List.length_append] at ht
   have HE:Hid ((catP (ps.take (k+1))).length=(catP (ps.take k)).length+p.n):=zH (by rw[he,List.length_append,hpn])
   rw[hpn] at ht
   clear he hp hsl hcl hpn
   obtain⟨A,n,c,l⟩:=p
   simp only at hcell ht HE
   generalize (catP (ps.take k)).length=q at *
   have h1:wrap64 ((q:Int)+(n:Int))=((q+n:Nat):Int):=by unfold wrap64;omega
   have h2:¬(((q+n:Nat):Int)<0):=by omega
   have h3:¬((q:Int)+(n:Int)<0):=by omega
   go_wp2_with fail
   exact⟨⟨k+1,by omega,by rw[HE.out];go_num,by go_num,by simp⟩,by simp[intOf];omega⟩
  ·obtain rfl:k=m:=by omega
   rw[HTake.out]
   go_wp2_with fail
   refine(HG.out _).mono ?_;rintro e w1 ⟨A0,c0,rfl,o1,b1⟩
   have HK:=zH ((Kn.start _).called b1 o1)
   simp only[lnA] at HK
   clear b1 o1
   go_wp2_with fail
   go_loopw [6,27] (fun vs vi wr=>∃(q:Nat) (A:Option Addr) (c N:Nat),q≤k∧Hid ((catP (ps.take q)).length=N)∧vs=.slice A N c∧vi=.int .i64 q∧Hid (Kn w.heap.size w wr [] [row vaLay (.slice A N c) (catP (ps.take q))])) (fun _ vi _=>k-(intOf vi).toNat)
   case atStart=>exact⟨0,A0,c0,0,Nat.zero_le _,zH rfl,rfl,rfl,HK⟩
   case round=>
    clear HK
    obtain⟨q,A,c,N,hq,hN,rfl,rfl,HK⟩:=hrel
    by_cases hlt:q<k
    ·obtain⟨p,hp,hsl,hcl⟩:=HGo.out q hlt
     have hcell:=hcl _ HK.out.b
     have HR:=zH (let h:=hsl.later HK.out.b;And.intro h.rd h.nl)
     have hlen:=HLen.out (q+1)
     have he:=catP_more hp
     rw[he,List.length_append,hN.out] at hlen
     have HE:=zH he
     have HPl:Hid (p.n=p.l.length):=zH hsl.len.symm
     have HL:Hid ((catP (ps.take q)).length+p.l.length≤9223372036854775807∧((catP (ps.take q)).length+p.l.length)*vaLay.bytes≤211106232532992):=zH ⟨by rw[hN.out];omega,by show _*40≤_;rw[hN.out];omega⟩
     have HN2:Hid ((catP (ps.take q)++p.l).length=N+p.l.length):=zH (by rw[List.length_append,hN.out])
     clear he hp hlen hsl hcl
     obtain⟨Ap,np,cp,lp⟩:=p
     simp only at hcell HR HPl HL HN2 HE
     go_wp2_with (first|(at_builtin;refine wpList_kmore HK vaLay 0 rfl _ _ rfl rfl rfl lp rfl HPl.out HR HL (N:=N+lp.length) HN2 ?_;intro A4 c4 _ HK';simp only[List.set] at HK';replace HK:=HK';clear HK'))
     refine⟨⟨q+1,A4,c4,N+lp.length,by omega,zH (by rw[HE.out,HN2.out]),rfl,by go_num,?_⟩,by simp[intOf];omega⟩
     rw[HE.out]
     exact HK
    ·obtain rfl:q=k:=by omega
     rw[HTake.out] at HK hN
     obtain rfl:=hN.out
     go_wp2_with fail
     go_ret
     exact⟨A,_,c,rfl,HK.out.own 0 rfl,HK.out.b⟩
end
section
open Go.RowKit
def rows3(x:Oh):List RowE:=[row prLay (.slice x.pA x.pn x.pc) x.v.prs,row vaLay (.slice x.vA x.vn x.vc) x.v.vals,row rfLay (.slice x.rA x.rn x.rc) x.v.refs]
theorem rows3_snoc(l:List Oh)(x:Oh):(l++[x]).flatMap rows3=l.flatMap rows3++[row prLay (.slice x.pA x.pn x.pc) x.v.prs]++[row vaLay (.slice x.vA x.vn x.vc) x.v.vals]++[row rfLay (.slice x.rA x.rn x.rc) x.v.refs]:=by
 rw[List.flatMap_append,List.flatMap_cons,List.flatMap_nil,List.append_nil,List.append_assoc,List.append_assoc]
 rfl
section
variable {b0:Nat}{w0 w:World}{L:List (Nat×TypeId×Array Value)}{R:List RowE}
theorem Kn.init{y:RowE}(h:Kn b0 w0 w L (R++[y])):Kn b0 w0 w L R:=by
 have h2:=h.takeR R.length
 rw[List.take_left' rfl] at h2
 exact h2
theorem Kn.lastOwn{P:Program}{α:Type}{La:Lay P α}{v:Value}{l:List α}(h:Kn b0 w0 w L (R++[row La v l])):La.Own b0 w v l:=h.own R.length (by simp)
theorem Kn.drop1{r0 r1:RowE}(h:Kn b0 w0 w L (r0::r1::R)):Kn b0 w0 w L (r0::R):=by
 refine h.pick (fun i=>i) (fun i=>if i=0 then 0 else i+1) (fun i j _ _ hij=>hij) (fun i j _ _ hij=>?_) (fun i x hx=>hx) (fun i x hx=>?_)
 ·split<;>split<;>omega
 ·match i,hx with
  | 0,hx=>exact hx
  | i+1,hx=>exact hx
theorem Kn.join{w':World}{Rn:List RowE}(h:Kn b0 w0 w L R)(k:Kn w.heap.size w w' [] Rn):Kn b0 w0 w' L (R++Rn):=by
 have hc:=h.call k.b
 have key:∀(i:Nat) x,(R++Rn)[i]?=some x→(i<R.length∧R[i]?=some x)∨(R.length≤i∧Rn[i-R.length]?=some x):=fun i x hx=>by
  rcases Nat.lt_or_ge i R.length with hi|hi
  ·rw[List.getElem?_append_left hi] at hx;exact .inl ⟨hi,hx⟩
  ·rw[List.getElem?_append_right hi] at hx;exact .inr ⟨hi,hx⟩
 refine⟨hc.b,hc.m,hc.l,fun i y hy=>?_,hc.ll,fun i j x y hx hy=>?_,fun i j x y hx hy hij=>?_⟩
 ·rcases key i y hy with ⟨_,hy⟩|⟨_,hy⟩
  ·exact hc.r i y hy
  ·exact World.ownsRow.mono (k.r _ y hy) h.m
 ·rcases key j y hy with ⟨_,hy⟩|⟨_,hy⟩
  ·exact hc.lr i j x y hx hy
  ·intro e
   have h1:=(owns_lt (k.r _ y hy) e).1
   have h2:=(h.l i x hx).2.lt
   omega
 ·rcases key i x hx with ⟨h1,hx⟩|⟨h1,hx⟩<;>rcases key j y hy with ⟨h2,hy⟩|⟨h2,hy⟩
  ·exact hc.rr i j x y hx hy hij
  ·intro g hg e
   have h3:=(owns_lt (h.r i x hx) hg).2
   have h4:=(owns_lt (k.r _ y hy) e).1
   omega
  ·intro g hg e
   have h3:=(owns_lt (h.r j y hy) e).2
   have h4:=(owns_lt (k.r _ x hx) hg).1
   omega
  ·exact k.rr _ _ x y hx hy (by omega)
theorem Kn.mem{P:Program}{α:Type}{La:Lay P α}{v:Value}{l:List α}(h:Kn b0 w0 w L R)(hm:row La v l∈R):La.Own b0 w v l:=by
 obtain⟨i,hi⟩:=List.mem_iff_getElem?.1 hm
 exact h.own i hi
end
structure Fo(o:Sto.Ob):Prop where
 p:Fit o.prs
 v:Fits vaLay vF o.vals
 r:Fits rfLay rF o.refs
 m:Mt.Fit o.mt
 d:o.round≤9223372036854775807
theorem In.fo{w:World}{x:Oh}(h:In w x):Fo x.v:=⟨h.p.fit,h.v.fit,h.r.fit,h.m,h.d⟩
theorem Obs.fo{w:World}{A:Option Addr}{n c:Nat}{l:List Oh}(h:Obs w A n c l):∀o∈vs l,Fo o:=fun o ho=>by
 obtain⟨x,hx,rfl⟩:=List.mem_map.1 ho
 exact(h.i x hx).fo
theorem Kn.obs{b0:Nat}{w0 w:World}{L:List (Nat×TypeId×Array Value)}{R:List RowE}{A:Option Addr}{n c:Nat}{l:List Oh}(h:Kn b0 w0 w L R)(h1:row obLay (.slice A n c) l∈R)(h2:∀y∈l.flatMap rows3,y∈R)(hf:∀o∈vs l,Fo o)(hn:n*144≤140737488355328):Obs w A n c l:=by
 have ho:=h.mem h1
 have hl:=ho.reads.1
 refine⟨Sls.own ho ⟨fun x hx=>trivial,?_⟩,fun x hx=>?_⟩
 ·show l.length*144≤_
  rw[← hl];exact hn
 ·have hfo:=hf x.v (List.mem_map.2 ⟨x,hx,rfl⟩)
  have hm:∀y∈rows3 x,y∈R:=fun y hy=>h2 y (List.mem_flatMap.2 ⟨x,hx,hy⟩)
  have m0:row prLay (.slice x.pA x.pn x.pc) x.v.prs∈rows3 x:=List.mem_cons_self ..
  have m1:row vaLay (.slice x.vA x.vn x.vc) x.v.vals∈rows3 x:=List.mem_cons_of_mem _ (List.mem_cons_self ..)
  have m2:row rfLay (.slice x.rA x.rn x.rc) x.v.refs∈rows3 x:=List.mem_cons_of_mem _ (List.mem_cons_of_mem _ (List.mem_cons_self ..))
  exact⟨Sl.own (h.mem (hm _ m0)) hfo.p,Sls.own (h.mem (hm _ m1)) hfo.v,Sls.own (h.mem (hm _ m2)) hfo.r,hfo.m,hfo.d⟩
def IsOJ(r:List Sto.Ob)(w:World)(e:Ending)(w':World):Prop:=∃A n c l,e=.returned (.slice A n c)∧vs l=r∧Kn w.heap.size w w' [] (row obLay (.slice A n c) l::l.flatMap rows3)∧Obs w' A n c l
def OJoins:Prop:=∀(g m:Nat) (ps:List (Pce Oh)) (w:World),ps.length=m→m≤8→g<w.heap.size→(∀i p,ps[i]?=some p→w.cell? ⟨g,i,none⟩=some (.slice p.A p.n p.c))→
 (∀p∈ps,Obs w p.A p.n p.c p.l)→(catP ps).length*144≤140737488355328→Calls Tryz.prog 124 #[.slice (some ⟨g,0,none⟩) m m] w (IsOJ (vs (catP ps)) w)
theorem ojoin_any:OJoins:=by
 intro g m ps w hm hb hg hc hs ht
 have HC:=zH (oconcat_any g m ps)
 have HCa:Hid (∀W,Below w.heap.size w W→Calls Tryz.prog 153 #[.slice (some ⟨g,0,none⟩) m m] W (IsLg obLay (catP ps) W)):=zH fun W hW=>
  oconcat_any g m ps W hm hb (Nat.lt_of_lt_of_le hg hW.size) (fun i p hp=>(hW.cell (p:=⟨g,i,none⟩) hg).trans (hc i p hp)) (fun p hp=>((hs p hp).later hW).s) ht
 have HI:Hid (∀x∈catP ps,In w x):=zH fun x hx=>by
  obtain⟨p,hp,hxp⟩:=List.mem_flatMap.1 hx
  exact(hs p hp).i x hxp
 clear HC hc hs hm hb hg
 generalize catP ps=src at *
 have HP:=zH pconcat_any
 have HV:=zH vconcat_any
 have HRf:=zH rconcat_any
 have HK:=zH (Kn.start w)
 unfold IsLg at HCa
 go_enter Tryz.func124,Tryz.ntmps124
 go_wp2_with (first|(refine wpList_mk0 obLay HK rfl rfl ?_;intro _ g2 HK';simp only[lnA] at HK';replace HK:=HK';clear HK'))
 refine(HCa.out _ HK.out.b).mono ?_;rintro e w1 ⟨A2,n2,c2,rfl,o2,b2⟩
 obtain rfl:n2=src.length:=o2.reads.1
 replace HK:=zH (HK.out.called b2 o2)
 simp only[lcA,lnA] at HK
 clear o2 b2 HCa
 have HFs:Hid (Fits obLay oF src):=zH ⟨fun x hx=>trivial,ht⟩
 generalize hN:src.length=N at *
 have HNl:=zH hN
 clear hN
 go_wp2_with fail
 go_loopw [3,10] (fun vl vi wr=>∃(k:Nat) (A1:Option Addr) (c1:Nat) (l1:List Oh),k≤N∧vl=.slice A1 k c1∧vi=.int .i64 k∧Hid (vs l1=vs (src.take k))∧Hid (l1.length=k)∧Hid (Kn w.heap.size w wr [] (row obLay (.slice A1 k c1) l1::row obLay (.slice A2 N c2) src::l1.flatMap rows3))) (fun _ vi _=>N-(intOf vi).toNat)
 case atStart=>exact⟨0,_,_,[],Nat.zero_le _,rfl,rfl,zH rfl,zH rfl,HK⟩
 case round=>
  clear HK
  obtain⟨k,A1,c1,l1,hk,rfl,rfl,HVs,HLen,HK⟩:=hrel
  by_cases hlt:k<N
  ·obtain⟨x,hx⟩:=Lay.get_of (l:=src) (k:=k) (by rw[HNl.out];exact hlt)
   have hsl:Sls obLay oF wr A2 N c2 src:=Sls.own (HK.out.own 1 rfl) HFs.out
   obtain⟨b,o,rfl,hat⟩:=hsl.at (Nat.lt_of_le_of_lt (Nat.zero_le _) hlt)
   have HX:Hid (∀j v,(obL x)[j]?=some v→wr.cell? ⟨b,o+k*11+j,none⟩=some v):=zH (hat wr (Below.refl _ _) k x hx)
   have HIx:=zH (HI.out x (List.mem_of_getElem? hx))
   have HTk:Hid (vs (src.take (k+1))=vs (src.take k)++[x.v]):=zH (by rw[Lay.take_succ hx];unfold vs;rw[List.map_append];rfl)
   have HL:Hid (l1.length+1≤9223372036854775807∧(l1.length+1)*obLay.bytes≤211106232532992):=zH (by
    rw[HLen.out]
    refine⟨by omega,?_⟩
    show(k+1)*144≤_
    omega)
   have HN2:Hid (∀y:Oh,(l1++[y]).length=k+1):=zH fun y=>by rw[List.length_append,HLen.out];rfl
   clear hsl hat hx
   have hk1:(0:Int)≤(k:Int):=by omega
   have hk2:(k:Int)<(N:Int):=by omega
   go_wp2_with (first|(refine wpList_of_exec (v:=.agg (obA x)) (by rfl) (exec_obx (off:=o+k*11) _ (by rfl) (by rfl) HX.out) ?_)|(refine wpList_aob HK rfl rfl ?_;intro _ g5 HK';simp only[lnA] at HK';replace HK:=HK';clear HK')|(refine wpList_sob HK 0 rfl _ _ rfl rfl rfl rfl ?_;intro _ HK';simp only[List.set] at HK';replace HK:=HK';clear HK')|refine wpList_exe (kob_p HK 0 _ (by rfl) (by rfl) (by rfl)) (by rfl) ?_|(refine wpList_mks1 prLay prNest HK rfl _ rfl rfl ?_;intro w3 g6 HK' _;simp only[lcA,lnA] at HK';replace HK:=HK';clear HK'))
   refine(HP.out.one HK 1 rfl (HIx.out.p.later HK.out.b).sls).mono ?_;rintro e w4 ⟨A4,n4,c4,rfl,o4,b4⟩
   replace HK:=zH (HK.out.called b4 o4)
   simp only[lcA] at HK
   clear o4 b4
   go_wp2_with (first|(refine wpList_sop HK 0 rfl _ _ rfl rfl rfl rfl x.v.prs ?_;intro _ HK';simp only[List.set] at HK';replace HK:=HK';clear HK')|refine wpList_exe (kob_v HK 0 _ (by rfl) (by rfl) (by rfl)) (by rfl) ?_|(refine wpList_mks1 vaLay vaNest HK rfl _ rfl rfl ?_;intro w5 g7 HK' _;simp only[lcA,lnA] at HK';replace HK:=HK';clear HK'))
   refine(HV.out.one HK 2 rfl (HIx.out.v.later HK.out.b)).mono ?_;rintro e w6 ⟨A5,n5,c5,rfl,o5,b5⟩
   replace HK:=zH (HK.out.called b5 o5)
   simp only[lcA] at HK
   clear o5 b5
   go_wp2_with (first|(refine wpList_sov HK 0 rfl _ _ rfl rfl rfl rfl x.v.vals ?_;intro _ HK';simp only[List.set] at HK';replace HK:=HK';clear HK')|refine wpList_exe (kob_r HK 0 _ (by rfl) (by rfl) (by rfl)) (by rfl) ?_|(refine wpList_mks1 rfLay rfNest HK rfl _ rfl rfl ?_;intro w7 g8 HK' _;simp only[lcA,lnA] at HK';replace HK:=HK';clear HK'))
   refine(HRf.out.one HK 3 rfl (HIx.out.r.later HK.out.b)).mono ?_;rintro e w8 ⟨A6,n6,c6,rfl,o6,b6⟩
   replace HK:=zH (HK.out.called b6 o6)
   simp only[lcA] at HK
   clear o6 b6
   have HN3:Hid ((l1++[((x.sp A4 n4 c4 x.v.prs).sv A5 n5 c5 x.v.vals).sr A6 n6 c6 x.v.refs]).length=k+1):=zH (HN2.out _)
   go_wp2_with (first|(refine wpList_sor HK 0 rfl _ _ rfl rfl rfl rfl x.v.refs ?_;intro _ HK';simp only[List.set] at HK';replace HK:=HK';clear HK')|refine wpList_exe (kob HK 0 _ (by rfl) (by rfl) (by rfl)) (by rfl) ?_|(refine wpList_mk1 obLay (p:=((x.sp A4 n4 c4 x.v.prs).sv A5 n5 c5 x.v.vals).sr A6 n6 c6 x.v.refs) HK (by decide) rfl _ rfl rfl rfl ?_;intro _ g9 HK';have HR:=zH (Kn.lastOwn HK'.out).rd;simp only[lcA] at HK';replace HK:=HK';clear HK')|(at_builtin;refine wpList_kmore HK obLay 0 rfl _ _ rfl rfl rfl [((x.sp A4 n4 c4 x.v.prs).sv A5 n5 c5 x.v.vals).sr A6 n6 c6 x.v.refs] rfl rfl HR HL (N:=k+1) HN3 ?_;intro A7 c7 _ HK';simp only[List.set] at HK';replace HK:=HK';clear HK'))
   refine⟨⟨k+1,A7,c7,l1++[((x.sp A4 n4 c4 x.v.prs).sv A5 n5 c5 x.v.vals).sr A6 n6 c6 x.v.refs],by omega,rfl,by go_num,zH ?_,HN3,zH ?_⟩,by simp[intOf];omega⟩
   ·rw[HTk.out,← HVs.out]
    unfold vs
    rw[List.map_append]
    rfl
   ·rw[rows3_snoc]
    have h:=HK.out.takeL 0
    rw[← lcA,← lcA] at h
    exact h.init
  ·obtain rfl:k=N:=by omega
   have hnb:k*144≤140737488355328:=by rw[← HNl.out];exact HFs.out.big
   have HEq:Hid (vs l1=vs src):=zH (by rw[HVs.out,← HNl.out,List.take_length])
   have HFo:Hid (∀y∈vs l1,Fo y):=zH fun y hy=>by
    rw[HEq.out] at hy
    obtain⟨x,hx,rfl⟩:=List.mem_map.1 hy
    exact(HI.out x hx).fo
   go_wp2_with fail
   go_ret
   exact⟨A1,k,c1,l1,rfl,HEq.out,HK.out.drop1,HK.out.obs (List.mem_cons_self ..) (fun y hy=>List.mem_cons_of_mem _ (List.mem_cons_of_mem _ hy)) HFo.out hnb⟩
section
variable {b0:Nat}{w0 w:World}{L:List (Nat×TypeId×Array Value)}{R:List RowE}{g:Nat}{A1 A2 A3:Option Addr}{n1 c1 n2 c2 n3 c3:Nat}{l1 l2 l3:List Oh}
theorem OJoins.one(J:OJoins)(HK:Hid (Kn b0 w0 w L R))(i:Nat)(hL:L[i]?=some (g,22,#[.slice A1 n1 c1]))(h1:Obs w A1 n1 c1 l1):
  Calls Tryz.prog 124 #[.slice (some ⟨g,0,none⟩) 1 1] w (IsOJ (vs l1) w):=by
 have h:=J g 1 [⟨A1,n1,c1,l1⟩] w rfl (by decide) (HK.out.blk i hL).lt (fun j p hp=>by
  match j,hp with
  | 0,hp=>simp at hp;subst hp;exact HK.out.cell i hL 0 rfl) (fun p hp=>by
   rw[List.mem_singleton] at hp;subst hp;exact h1) (by
   show(l1++[]).length*_≤_
   rw[List.append_nil];exact h1.s.fit.big)
 have e:catP [(⟨A1,n1,c1,l1⟩:Pce Oh)]=l1:=by show l1++[]=l1;rw[List.append_nil]
 rw[e] at h
 exact h
theorem OJoins.two(J:OJoins)(HK:Hid (Kn b0 w0 w L R))(i:Nat)(hL:L[i]?=some (g,22,#[.slice A1 n1 c1,.slice A2 n2 c2]))(h1:Obs w A1 n1 c1 l1)(h2:Obs w A2 n2 c2 l2)(ht:(n1+n2)*144≤140737488355328):
  Calls Tryz.prog 124 #[.slice (some ⟨g,0,none⟩) 2 2] w (IsOJ (vs (l1++l2)) w):=by
 have h:=J g 2 [⟨A1,n1,c1,l1⟩,⟨A2,n2,c2,l2⟩] w rfl (by decide) (HK.out.blk i hL).lt (fun j p hp=>by
  match j,hp with
  | 0,hp=>simp at hp;subst hp;exact HK.out.cell i hL 0 rfl
  | 1,hp=>simp at hp;subst hp;exact HK.out.cell i hL 1 rfl) (fun p hp=>by
   simp only[List.mem_cons,List.not_mem_nil,or_false] at hp
   rcases hp with rfl|rfl
   ·exact h1
   ·exact h2) (by
   show(l1++(l2++[])).length*_≤_
   rw[List.append_nil,List.length_append,h1.len,h2.len];exact ht)
 have e:catP [(⟨A1,n1,c1,l1⟩:Pce Oh),⟨A2,n2,c2,l2⟩]=l1++l2:=by show l1++(l2++[])=_;rw[List.append_nil]
 rw[e] at h
 exact h
theorem OJoins.three(J:OJoins)(HK:Hid (Kn b0 w0 w L R))(i:Nat)(hL:L[i]?=some (g,22,#[.slice A1 n1 c1,.slice A2 n2 c2,.slice A3 n3 c3]))(h1:Obs w A1 n1 c1 l1)(h2:Obs w A2 n2 c2 l2)(h3:Obs w A3 n3 c3 l3)(ht:(n1+n2+n3)*144≤140737488355328):
  Calls Tryz.prog 124 #[.slice (some ⟨g,0,none⟩) 3 3] w (IsOJ (vs (l1++l2++l3)) w):=by
 have h:=J g 3 [⟨A1,n1,c1,l1⟩,⟨A2,n2,c2,l2⟩,⟨A3,n3,c3,l3⟩] w rfl (by decide) (HK.out.blk i hL).lt (fun j p hp=>by
  match j,hp with
  | 0,hp=>simp at hp;subst hp;exact HK.out.cell i hL 0 rfl
  | 1,hp=>simp at hp;subst hp;exact HK.out.cell i hL 1 rfl
  | 2,hp=>simp at hp;subst hp;exact HK.out.cell i hL 2 rfl) (fun p hp=>by
   simp only[List.mem_cons,List.not_mem_nil,or_false] at hp
   rcases hp with rfl|rfl|rfl
   ·exact h1
   ·exact h2
   ·exact h3) (by
   show(l1++(l2++(l3++[]))).length*_≤_
   rw[List.append_nil,List.length_append,List.length_append,h1.len,h2.len,h3.len,← Nat.add_assoc];exact ht)
 have e:catP [(⟨A1,n1,c1,l1⟩:Pce Oh),⟨A2,n2,c2,l2⟩,⟨A3,n3,c3,l3⟩]=l1++l2++l3:=by show l1++(l2++(l3++[]))=_;rw[List.append_nil,List.append_assoc]
 rw[e] at h
 exact h
end
end
section
open Go.RowKit
def IsOc(w0:World)(y:Sto.Oc)(w:World)(e:Ending)(w':World):Prop:=∃x A n c Rn,e=.returned (.agg (ocA x y.p y.later A n c))∧x.v=y.o∧Kn w.heap.size w w' [] Rn∧
 ∀(b:Nat) (W0 W:World) L R,Kn b W0 W L R→(∀y∈Rn,y∈R)→(Below w0.heap.size w0 W→In W x)∧Sls otLay tF W A n c y.outs
theorem fits_ot{l:List Sto.Ot}(h:l.length≤6):Fits otLay tF l:=⟨fun x hx=>trivial,by show l.length*72≤_;omega⟩
theorem stake_any(w0:World)(x:Oh)(r:Rf)(w:World)(hx0:In w0 x)(hw:Below w0.heap.size w0 w):Calls Tryz.prog 159 #[.agg (obA x),.agg #[.int .i64 r.c,.int .i64 r.e,.int .i64 r.r]] w (IsOc w0 (Sto.take x.v r) w):=by
 have hx:=hx0.later hw
 have HI:=zH hx0
 have HT:=zH (fun W (hW:Below w.heap.size w W)=>ltake_any x.rA x.rc x.rn x.v.refs r W (hx.r.later hW))
 have HFt:=zH (fits_tk (r:=r) hx.r.fit)
 have HK:=kn3 w 60 (obA x) 35 #[.int .i64 r.c,.int .i64 r.e,.int .i64 r.r] 158 (ocA ohZ Sto.rz false none 0 0)
 unfold IsOc Sto.take
 unfold IsTk at HT
 simp only
 clear hx hx0 hw
 generalize Lck.tkL x.v.refs r=m at *
 generalize Lck.tkH x.v.refs r=h at *
 generalize Lck.tkE x.v.refs r=z at *
 by_cases hz:z=0
 ·subst hz
  cases h
  all_goals
   go_enter Tryz.func159,Tryz.ntmps159
   go_wp2_with (first|refine wpList_exe (kob_r HK 0 _ (by rfl) (by rfl) (by rfl)) (by rfl) ?_|refine wpList_exe (kexec_lr HK 1 _ (by rfl) (by rfl) (by rfl)) (by rfl) ?_)
   refine(HT.out _ HK.out.b).mono ?_;rintro e w1 ⟨A4,n4,c4,rfl,o4,b4⟩
   replace HK:=zH (HK.out.called b4 o4)
   simp only[lnA] at HK
   clear o4 b4
   go_wp2_with (first|(refine wpList_sor HK 0 rfl _ _ rfl rfl rfl rfl m ?_;intro _ HK';simp only[List.set] at HK';replace HK:=HK';clear HK')|refine wpList_exe (kob HK 0 _ (by rfl) (by rfl) (by rfl)) (by rfl) ?_|refine wpList_exe (exec_b3 (p:=Sto.err 0) _ _ _ (by rfl) (by rfl) (by rfl) (by rfl)) (by rfl) ?_|(refine wpList_soc HK 2 rfl _ _ rfl rfl rfl rfl ?_;intro _ HK';simp only[List.set] at HK';replace HK:=HK';clear HK'))
   exact ret_oc Tryz.results159 rfl rfl (HK.out.blk 2 rfl) ⟨_,_,_,_,_,rfl,rfl,HK.out.takeL 0,fun _ _ _ _ _ K hm=>⟨fun hb=>(HI.out.later hb).sr (Sls.own (K.mem (hm _ (by simp))) HFt.out),Sls.none _⟩⟩
 ·have hz2:(z==0)=false:=by simpa using hz
  have hd:(decide (z=0)&&!h)=false:=by rw[decide_eq_false hz];rfl
  rw[hd]
  clear hd hz
  go_enter Tryz.func159,Tryz.ntmps159
  go_wp2_with (first|refine wpList_exe (kob_r HK 0 _ (by rfl) (by rfl) (by rfl)) (by rfl) ?_|refine wpList_exe (kexec_lr HK 1 _ (by rfl) (by rfl) (by rfl)) (by rfl) ?_)
  refine(HT.out _ HK.out.b).mono ?_;rintro e w1 ⟨A4,n4,c4,rfl,o4,b4⟩
  replace HK:=zH (HK.out.called b4 o4)
  simp only[lnA] at HK
  clear o4 b4
  go_wp2_with (first|(refine wpList_sor HK 0 rfl _ _ rfl rfl rfl rfl m ?_;intro _ HK';simp only[List.set] at HK';replace HK:=HK';clear HK')|refine wpList_exe (kob HK 0 _ (by rfl) (by rfl) (by rfl)) (by rfl) ?_|refine wpList_exe (exec_b3 (p:=Sto.err z) _ _ _ (by rfl) (by rfl) (by rfl) (by rfl)) (by rfl) ?_|(refine wpList_soc HK 2 rfl _ _ rfl rfl rfl rfl ?_;intro _ HK';simp only[List.set] at HK';replace HK:=HK';clear HK'))
  exact ret_oc Tryz.results159 rfl rfl (HK.out.blk 2 rfl) ⟨_,_,_,_,_,rfl,rfl,HK.out.takeL 0,fun _ _ _ _ _ K hm=>⟨fun hb=>(HI.out.later hb).sr (Sls.own (K.mem (hm _ (by simp))) HFt.out),Sls.none _⟩⟩
theorem held_len(y:Rf)(h:Bool):(Sto.held y h).length≤6:=by cases h<;>(unfold Sto.held;simp)
theorem sfree_any(w0:World)(x:Oh)(r:Rf)(w:World)(hx0:In w0 x)(hw:Below w0.heap.size w0 w):Calls Tryz.prog 160 #[.agg (obA x),.agg #[.int .i64 r.c,.int .i64 r.e,.int .i64 r.r]] w (IsOc w0 (Sto.free x.v r) w):=by
 have hx:=hx0.later hw
 have HI:=zH hx0
 have HT:=zH (fun W (hW:Below w.heap.size w W)=>lfree_any x.rA x.rc x.rn x.v.refs r W (hx.r.later hW))
 have HFt:=zH (fits_fr (r:=r) hx.r.fit)
 have HFo:=zH (fits_ot (held_len (Lck.frN x.v.refs r) (Lck.frS x.v.refs r)))
 have HH:=zH (fun W=>sheld_any (Lck.frN x.v.refs r) (Lck.frS x.v.refs r) W)
 have HK:=kn3 w 60 (obA x) 35 #[.int .i64 r.c,.int .i64 r.e,.int .i64 r.r] 158 (ocA ohZ Sto.rz false none 0 0)
 unfold IsOc Sto.free
 unfold IsFr at HT
 unfold IsOt at HH
 simp only
 clear hx hx0 hw
 generalize Lck.frL x.v.refs r=m at *
 generalize Sto.held (Lck.frN x.v.refs r) (Lck.frS x.v.refs r)=os at *
 generalize Lck.frS x.v.refs r=h at *
 generalize Lck.frE x.v.refs r=z at *
 generalize Lck.frN x.v.refs r=y at *
 go_enter Tryz.func160,Tryz.ntmps160
 go_wp2_with (first|refine wpList_exe (kob_r HK 0 _ (by rfl) (by rfl) (by rfl)) (by rfl) ?_|refine wpList_exe (kexec_lr HK 1 _ (by rfl) (by rfl) (by rfl)) (by rfl) ?_)
 refine(HT.out _ HK.out.b).mono ?_;rintro e w1 ⟨A4,n4,c4,rfl,o4,b4⟩
 replace HK:=zH (HK.out.called b4 o4)
 simp only[lnA] at HK
 clear o4 b4
 go_upto_region 3 with (first|(refine wpList_akr HK rfl rfl ?_;intro _ g5 HK';simp only[lcA,lnA] at HK';replace HK:=HK';clear HK')|(refine wpList_sr HK 3 rfl _ _ rfl rfl rfl rfl ?_;intro _ HK';simp only[List.set] at HK';replace HK:=HK';clear HK')|(refine wpList_sor HK 0 rfl _ _ rfl rfl rfl rfl m ?_;intro _ HK';simp only[List.set] at HK';replace HK:=HK';clear HK'))
 replace HK:=zH HK.out.drew
 refine wp_region_any (by kernel_rfl) ?_
 change wpAny _ _ _ _ _ _ _ (World.drew _)
 refine wpAny_take (i:=1) (oi:=⟨some 21,_,_,_,_,_⟩) (v:=?_) rfl (by kernel_rfl) (by kernel_rfl) (by kernel_rfl) (fun _ _ _ h=>h) (Or.inl ⟨by rfl,?_⟩) ?_
 rotate_left
 ·(intro w;go_simp;try with_reducible rfl)
 try simp only[ap1,ap2,ap3,ap4,ap5]
 refine wpAny_take (i:=2) (oi:=⟨some 22,_,_,_,_,_⟩) (v:=?_) rfl (by kernel_rfl) (by kernel_rfl) (by kernel_rfl) (fun _ _ _ h=>h) (Or.inl ⟨by rfl,?_⟩) ?_
 rotate_left
 ·(intro w;go_simp;try with_reducible rfl)
 try simp only[ap1,ap2,ap3,ap4,ap5]
 refine wpAny_take (i:=4) (oi:=⟨some 24,_,_,_,_,_⟩) (v:=?_) rfl (by kernel_rfl) (by kernel_rfl) (by kernel_rfl) (fun _ _ _ h=>h) (Or.inl ⟨by rfl,?_⟩) ?_
 rotate_left
 ·(intro w;go_simp;try with_reducible rfl)
 try simp only[ap1,ap2,ap3,ap4,ap5]
 refine wpAny_ready (rs:=[0,3]) (by kernel_rfl) (by simp) ?_
 refine AllReady.cons (o:=⟨some 20,_,_,_,_,_⟩) rfl (fun K hK=>?_) (AllReady.cons (o:=⟨some 23,_,_,_,_,_⟩) rfl (fun K hK=>?_) AllReady.nil)
 replace hK:=zH hK
 refine step_of_exec (by rfl) (kob HK 0 _ (by rfl) (by rfl) (by rfl)) ?_
 refine hK.out _ _ ?_
 clear hK K
 try simp only[ap1,ap2,ap3,ap4,ap5]
 refine wpAny_ready (rs:=[3]) (by kernel_rfl) (by simp) ?_
 refine AllReady.cons (o:=⟨some 23,_,_,_,_,_⟩) rfl (fun K hK=>?_) AllReady.nil
 replace hK:=zH hK
 refine step_of_exec (by rfl) (kexec_lr HK 3 _ (by rfl) (by rfl) (by rfl)) ?_
 refine hK.out _ _ ?_
 clear hK K
 try simp only[ap1,ap2,ap3,ap4,ap5]
 refine wpAny_ready (rs:=[5]) (by kernel_rfl) (by simp) ?_
 refine AllReady.cons (o:=⟨some 25,_,_,_,_,_⟩) rfl (fun K hK=>?_) AllReady.nil
 replace hK:=zH hK
 go_simp
 go_at_call 126
 refine(HH.out _).mono ?_;rintro e w2 ⟨A6,n6,c6,rfl,k6,b6⟩;replace HK:=zH (k6 _ _ _ _ HK.out);simp only[lcA,lnA] at HK;clear k6 b6
 refine hK.out _ _ ?_
 clear hK K
 try simp only[ap1,ap2,ap3,ap4,ap5]
 refine wpAny_take (i:=6) (oi:=⟨some 26,_,_,_,_,_⟩) (v:=?_) rfl (by kernel_rfl) (by kernel_rfl) (by kernel_rfl) (fun _ _ _ h=>h) (Or.inl ⟨by rfl,?_⟩) ?_
 rotate_left
 ·(intro w;refine Eq.trans (exec_b4 (p:=Sto.err z) _ _ _ (by rfl) (by rfl) (by rfl) (by rfl)) ?_;with_reducible rfl)
 try simp only[ap1,ap2,ap3,ap4,ap5]
 refine wpAny_ready (rs:=[7]) (by kernel_rfl) (by simp) ?_
 refine AllReady.cons (o:=⟨none,_,_,_,_,_⟩) rfl (fun K hK=>?_) AllReady.nil
 replace hK:=zH hK
 refine step_soc HK 2 (by rfl) _ _ (by rfl) (by rfl) (by rfl) (by rfl) ?_;intro _ HK';simp only[List.set] at HK';replace HK:=HK';clear HK'
 refine hK.out _ _ ?_
 clear hK K
 try simp only[ap1,ap2,ap3,ap4,ap5]
 refine wpAny_done (by kernel_rfl) ?_ _
 rotate_left
 replace hK:=zH hK
 refine step_of_exec (by rfl) (kexec_lr HK 3 _ (by rfl) (by rfl) (by rfl)) ?_
 refine hK.out _ _ ?_
 clear hK K
 try simp only[ap1,ap2,ap3,ap4,ap5]
 refine wpAny_ready (rs:=[0,5]) (by kernel_rfl) (by simp) ?_
 refine AllReady.cons (o:=⟨some 20,_,_,_,_,_⟩) rfl (fun K hK=>?_) (AllReady.cons (o:=⟨some 25,_,_,_,_,_⟩) rfl (fun K hK=>?_) AllReady.nil)
 replace hK:=zH hK
 refine step_of_exec (by rfl) (kob HK 0 _ (by rfl) (by rfl) (by rfl)) ?_
 refine hK.out _ _ ?_
 clear hK K
 try simp only[ap1,ap2,ap3,ap4,ap5]
 refine wpAny_ready (rs:=[5]) (by kernel_rfl) (by simp) ?_
 refine AllReady.cons (o:=⟨some 25,_,_,_,_,_⟩) rfl (fun K hK=>?_) AllReady.nil
 replace hK:=zH hK
 go_simp
 go_at_call 126
 refine(HH.out _).mono ?_;rintro e w2 ⟨A6,n6,c6,rfl,k6,b6⟩;replace HK:=zH (k6 _ _ _ _ HK.out);simp only[lcA,lnA] at HK;clear k6 b6
 refine hK.out _ _ ?_
 clear hK K
 try simp only[ap1,ap2,ap3,ap4,ap5]
 refine wpAny_take (i:=6) (oi:=⟨some 26,_,_,_,_,_⟩) (v:=?_) rfl (by kernel_rfl) (by kernel_rfl) (by kernel_rfl) (fun _ _ _ h=>h) (Or.inl ⟨by rfl,?_⟩) ?_
 rotate_left
 ·(intro w;refine Eq.trans (exec_b4 (p:=Sto.err z) _ _ _ (by rfl) (by rfl) (by rfl) (by rfl)) ?_;with_reducible rfl)
 try simp only[ap1,ap2,ap3,ap4,ap5]
 refine wpAny_ready (rs:=[7]) (by kernel_rfl) (by simp) ?_
 refine AllReady.cons (o:=⟨none,_,_,_,_,_⟩) rfl (fun K hK=>?_) AllReady.nil
 replace hK:=zH hK
 refine step_soc HK 2 (by rfl) _ _ (by rfl) (by rfl) (by rfl) (by rfl) ?_;intro _ HK';simp only[List.set] at HK';replace HK:=HK';clear HK'
 refine hK.out _ _ ?_
 clear hK K
 try simp only[ap1,ap2,ap3,ap4,ap5]
 refine wpAny_done (by kernel_rfl) ?_ _
 rotate_left
 replace hK:=zH hK
 go_simp
 go_at_call 126
 refine(HH.out _).mono ?_;rintro e w2 ⟨A6,n6,c6,rfl,k6,b6⟩;replace HK:=zH (k6 _ _ _ _ HK.out);simp only[lcA,lnA] at HK;clear k6 b6
 refine hK.out _ _ ?_
 clear hK K
 try simp only[ap1,ap2,ap3,ap4,ap5]
 refine wpAny_ready (rs:=[0]) (by kernel_rfl) (by simp) ?_
 refine AllReady.cons (o:=⟨some 20,_,_,_,_,_⟩) rfl (fun K hK=>?_) AllReady.nil
 replace hK:=zH hK
 refine step_of_exec (by rfl) (kob HK 0 _ (by rfl) (by rfl) (by rfl)) ?_
 refine hK.out _ _ ?_
 clear hK K
 try simp only[ap1,ap2,ap3,ap4,ap5]
 refine wpAny_take (i:=6) (oi:=⟨some 26,_,_,_,_,_⟩) (v:=?_) rfl (by kernel_rfl) (by kernel_rfl) (by kernel_rfl) (fun _ _ _ h=>h) (Or.inl ⟨by rfl,?_⟩) ?_
 rotate_left
 ·(intro w;refine Eq.trans (exec_b4 (p:=Sto.err z) _ _ _ (by rfl) (by rfl) (by rfl) (by rfl)) ?_;with_reducible rfl)
 try simp only[ap1,ap2,ap3,ap4,ap5]
 refine wpAny_ready (rs:=[7]) (by kernel_rfl) (by simp) ?_
 refine AllReady.cons (o:=⟨none,_,_,_,_,_⟩) rfl (fun K hK=>?_) AllReady.nil
 replace hK:=zH hK
 refine step_soc HK 2 (by rfl) _ _ (by rfl) (by rfl) (by rfl) (by rfl) ?_;intro _ HK';simp only[List.set] at HK';replace HK:=HK';clear HK'
 refine hK.out _ _ ?_
 clear hK K
 try simp only[ap1,ap2,ap3,ap4,ap5]
 refine wpAny_done (by kernel_rfl) ?_ _
 rotate_left
 all_goals
  go_wp2_with fail
  exact ret_oc Tryz.results160 rfl rfl (HK.out.blk 2 rfl) ⟨_,_,_,_,_,rfl,rfl,HK.out.takeL 0,fun _ _ _ _ _ K hm=>⟨fun hb=>(HI.out.later hb).sr (Sls.own (K.mem (hm _ (by simp))) HFt.out),Sls.own (K.mem (hm _ (by simp))) HFo.out⟩⟩
end
end Go.Proofs.YtddpmlcpfmmbeaaGreat
