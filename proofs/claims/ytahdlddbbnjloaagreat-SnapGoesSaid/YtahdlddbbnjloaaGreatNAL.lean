/- What slices.Grow of the nil slice, slices.Concat of items return. No condition but those named. -/
import Derived.Test.YtahdlddbbnjloaaGreatNAI
import Derived.Test.YtahdlddbbnjloaaGreatNAJ
set_option linter.unusedSimpArgs false
set_option linter.unusedVariables false
set_option maxRecDepth 100000
set_option maxHeartbeats 25600000
open Go.RowKit
namespace Go.Proofs.YtahdlddbbnjloaaGreat
open _root_.Go.Proofs.Tryz
section
def iF(_:ny.It):Prop:=True
theorem QU(n:Nat)(w:World)(h32:n*32≤140737488355328):Calls prog 108 #[.slice none 0 0,.int .i64 n] w fun e w'=>∃A c,e=.returned (.slice A 0 c)∧aD.Own w.heap.size w' (.slice A 0 c) []∧Below w.heap.size w w':=by
 by_cases h0:n=0
 ·subst h0
  have HK:=zH (Kn.start w);clear h32;go_enter func108,ntmps108;go_wp2_with fail;go_ret;exact⟨_,_,rfl,Lay.Own.none _ _,HK.out.b⟩
 obtain⟨i0,hi,hz0,hz1,hz2⟩:=info_parts aD.info;have hc1:=grownCap_ge w n 0 81;have hr:=Lib.run_append_nil_zeros (P:=prog) w 53 3 53 81 i0 aD.z .i64 .i64 aD.und underlying3 hi hz0 n (by omega) (by rw[hz1];decide) (by omega) (by rw[hz2];show n*32≤_;omega);have HR:=zH hr;have hc2:=grownCap_le_maxLen w n 0 81 (by unfold maxLen;omega);generalize grownCap w n 0 81=G at *
 have HO:Hid (aD.Own w.heap.size (w.drew.alloc (.cells (Builtin.zeroCells aD.z.cells n++Builtin.zeroCells aD.z.cells (G-n)) 81)) (.slice (some ⟨w.heap.size,0,none⟩) 0 G) []):=by
  have:=World.ownsRow_made (base:=w.heap.size) (e:=81) (size:=3) w.drew (Builtin.zeroCells aD.z.cells n++Builtin.zeroCells aD.z.cells (G-n)) G (Nat.le_refl _) hc2 (by
   rw[Array.size_append,size_zeroCells,size_zeroCells];have:aD.z.cells.size=3:=rfl
   rw[this];omega)
  exact zH this
 have HB:Hid (Below w.heap.size w (w.drew.alloc (.cells (Builtin.zeroCells aD.z.cells n++Builtin.zeroCells aD.z.cells (G-n)) 81))):=zH ((Below.refl _ w).drew.alloc (Nat.le_refl _) _);generalize w.drew.alloc (.cells (Builtin.zeroCells aD.z.cells n++Builtin.zeroCells aD.z.cells (G-n)) 81)=wz at *
 clear hr hi hz0 hz1 hz2 hc1 hc2;have h1:¬((n:Int)<0):=by omega
 have h2:(0:Int)<(n:Int):=by omega
 have h3:wrap64 (n:Int)=(n:Int):=by unfold wrap64;omega
 go_enter func108,ntmps108;go_wp2_with (at_builtin;refine Lib.wpList_append_run _ rfl _ _ _ _ rfl _ _ rfl rfl _ _ HR.out ?_);go_ret;exact⟨_,_,rfl,HO.out,HB.out⟩
theorem yK:Joins prog 62 aD iF:=by
 intro g m ps w hm hb hg hc hs ht;replace ht:(lI ps).length*32≤140737488355328:=ht
 have kE:Hid (∀k,k<m→∃p,ps[k]?=some p∧bT aD iF w p.A p.n p.c p.l∧∀W,Below w.heap.size w W→W.cell? ⟨g,k,none⟩=some (.slice p.A p.n p.c)):=zH fun k hk=>by
  obtain⟨p,hp⟩:=Lay.dW (l:=ps) (k:=k) (by rw[hm];exact hk);exact⟨p,hp,hs p (List.mem_of_getElem? hp),fun W hW=>(hW.cell (p:=⟨g,k,none⟩) hg).trans (hc k p hp)⟩
 have HLen:Hid (∀k,(lI (ps.take k)).length*32≤140737488355328):=zH fun k=>Nat.le_trans (Nat.mul_le_mul_right _ (abH ps k)) ht
 have yS:Hid (ps.take m=ps):=zH (by rw[← hm];exact List.take_length);have HG:=zH (fun W=>QU (lI ps).length W ht);clear hc hs ht hm hg;go_enter func62,ntmps62;go_wp2_with fail;go_loopw [3,11] (fun vs vi wr=>∃k:Nat,k≤m∧vs=.int .i64 ((lI (ps.take k)).length:Nat)∧vi=.int .i64 k∧w=wr) (fun _ vi _=>m-(intOf vi).toNat)
 case atStart=>exact⟨0,Nat.zero_le _,rfl,rfl,rfl⟩
 case round=>
  obtain⟨k,hk,rfl,rfl,rfl⟩:=hrel;by_cases hlt:k<m
  ·obtain⟨p,hp,hsl,hcl⟩:=kE.out k hlt
   have hcell:=hcl _ (Below.refl _ _);have ht:=HLen.out (k+1);have he:=DN hp;have hpn:=hsl.len;rw[he,List.length_append] at ht;have HE:Hid ((lI (ps.take (k+1))).length=(lI (ps.take k)).length+p.n):=zH (by rw[he,List.length_append,hpn]);rw[hpn] at ht;clear he hp hsl hcl hpn;obtain⟨A,n,c,l⟩:=p;simp only at hcell ht HE;generalize (lI (ps.take k)).length=q at *
   have h1:wrap64 ((q:Int)+(n:Int))=((q+n:Nat):Int):=by unfold wrap64;omega
   have h2:¬(((q+n:Nat):Int)<0):=by omega
   have h3:¬((q:Int)+(n:Int)<0):=by omega
   go_wp2_with fail;exact⟨⟨k+1,by omega,by rw[HE.out];go_num,by go_num,by simp⟩,by simp[intOf];omega⟩
  ·obtain rfl:k=m:=by omega
   rw[yS.out];go_wp2_with fail;refine(HG.out _).mono ?_;rintro e w1 ⟨A0,c0,rfl,o1,b1⟩;have HK:=zH ((Kn.start _).called b1 o1);simp only[aK] at HK;clear b1 o1;go_wp2_with fail;go_loopw [6,27] (fun vs vi wr=>∃(q:Nat) (A:Option Addr) (c N:Nat),q≤k∧Hid ((lI (ps.take q)).length=N)∧vs=.slice A N c∧vi=.int .i64 q∧Hid (Kn w.heap.size w wr [] [row aD (.slice A N c) (lI (ps.take q))])) (fun _ vi _=>k-(intOf vi).toNat)
   case atStart=>exact⟨0,A0,c0,0,Nat.zero_le _,zH rfl,rfl,rfl,HK⟩
   case round=>
    clear HK;obtain⟨q,A,c,N,hq,hN,rfl,rfl,HK⟩:=hrel;by_cases hlt:q<k
    ·obtain⟨p,hp,hsl,hcl⟩:=kE.out q hlt
     have hcell:=hcl _ HK.out.b;have HR:=zH (let h:=hsl.later HK.out.b;And.intro h.rd h.nl);have hlen:=HLen.out (q+1);have he:=DN hp;rw[he,List.length_append,hN.out] at hlen;have HE:=zH he;have Yq:Hid (p.n=p.l.length):=zH hsl.len.symm;have HL:Hid ((lI (ps.take q)).length+p.l.length≤9223372036854775807∧((lI (ps.take q)).length+p.l.length)*aD.bytes≤211106232532992):=zH ⟨by rw[hN.out];omega,by show _*32≤_;rw[hN.out];omega⟩;have fP:Hid ((lI (ps.take q)++p.l).length=N+p.l.length):=zH (by rw[List.length_append,hN.out]);clear he hp hlen hsl hcl;obtain⟨Ap,np,cp,lp⟩:=p;simp only at hcell HR Yq HL fP HE;go_wp2_with (at_builtin;refine bA HK aD 0 lp Yq.out HR HL (N:=N+lp.length) fP ?_;clear HK;intro A4 c4 _ HK;simp only[lS] at HK);refine⟨⟨q+1,A4,c4,N+lp.length,by omega,zH (by rw[HE.out,fP.out]),rfl,by go_num,?_⟩,by simp[intOf];omega⟩;rw[HE.out];exact HK
    ·obtain rfl:q=k:=by omega
     rw[yS.out] at HK hN;obtain rfl:=hN.out;go_wp2_with fail;go_ret;exact⟨A,_,c,rfl,HK.out.own 0 rfl,HK.out.b⟩
end
end Go.Proofs.YtahdlddbbnjloaaGreat
