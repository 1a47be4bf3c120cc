/- What is known of the memory at a step: blocks known whole, rows of the call's own, all apart from one another; and what each operation leaves of it: No condition but those named. -/
import Derived.Test.YtieoeendnccafaaGreatNTK
set_option linter.unusedSimpArgs false
set_option linter.unusedVariables false
set_option maxRecDepth 100000
set_option maxHeartbeats 25600000
open Go.RowKit
namespace Go.Proofs.YtieoeendnccafaaGreat
section
theorem KN{need old:Nat}(h:old<need):Builtin.nextslicecap need old≤need+need / 4+512:=by
 unfold Builtin.nextslicecap
 split
 ·omega
 ·split
  ·omega
  ·rw[growBy_four]
   repeat' split
   all_goals omega
theorem Dx{need old bytes:Nat}(hs:bytes≤65536)(hb:need*bytes≤211106232532992)(h:old<need:=by omega):Builtin.nextslicecap need old*bytes≤281474976710656:=by
 have h1:Builtin.nextslicecap need old*bytes≤(need+need / 4+512)*bytes:=Nat.mul_le_mul_right _ (KN h)
 have h2:need / 4*bytes≤need*bytes / 4:=by
  rw[Nat.le_div_iff_mul_le (by decide),Nat.mul_right_comm];exact Nat.mul_le_mul_right _ (Nat.div_mul_le_self need 4)
 rw[Nat.add_mul,Nat.add_mul] at h1;omega
section
variable {P:Program}(w:World)
theorem Ak(base:Nat)(t tx ty e:TypeId)(i:TypeInfo)(z:Value)(size bytes:Nat)(ht:P.underlying t=some (.slice e))(hi:P.info? e=some i)(hz:i.zero=some z)
  (hsize:i.size=size) (hby:i.bytes=bytes) (hzs:z.cells.size=size) (hsz:0<size) (hbs:bytes≤65536)
  (v:Value) (n:Nat) (xs:List Value) (hown:w.ownsRow base e size v n xs) (x:Value) (m:Nat) (news:List Value) (hs:Src P size tx x m news w)
  (h63:n+m≤maxLen) (hbytes:(n+m)*bytes≤211106232532992) (hbase:base≤w.heap.size) :
  ∃v' w',(Builtin.append_ #[t,tx] ty #[v,x]).run P w=.ok v' w'∧w'.ownsRow base e size v' (n+m) (xs++news)∧w.grownBy w' v.ownBlock∧
   (v'.ownBlock=v.ownBlock∨v'.ownBlock=some w.heap.size):=by
 subst hsize;subst hby;have hsmall:n+m≤9223372036854775807:=by simp only[maxLen] at h63;omega
 have hl:=hs.newsLen;have hlen:(xs++news).length=(n+m)*i.size:=by rw[List.length_append,hown.1,hl,Nat.add_mul]
 have grown:∀(old:Nat),old<n+m→∀(row:Option Nat),
   (w.drew.alloc (.cells ((xs++news).toArray++Builtin.zeroCells z.cells (grownCap w (n+m) old e-(n+m))) e)).ownsRow base e i.size
    (.slice (some ⟨w.heap.size,0,none⟩) (n+m) (grownCap w (n+m) old e)) (n+m) (xs++news)∧
   w.grownBy (w.drew.alloc (.cells ((xs++news).toArray++Builtin.zeroCells z.cells (grownCap w (n+m) old e-(n+m))) e)) row:=by
  intro old ho row;have hge:=grownCap_ge w (n+m) old e;have hcm:grownCap w (n+m) old e≤maxLen:=grownCap_le_maxLen w (n+m) old e h63;refine⟨⟨hlen,.inr ⟨w.heap.size,_,_,rfl,hbase,heap_alloc_new w.drew _,hge,hcm,?_,?_⟩⟩,⟨rfl,rfl,rfl,by simp,fun k hk _=>Below.heap_alloc w.drew _ k hk⟩⟩
  ·simp only[Array.size_append,List.size_toArray,size_zeroCells,hzs,hlen,← Nat.add_mul]
   congr 1
   omega
  ·rw[Array.toList_append,List.toList_toArray,← hlen]
   exact List.take_left
 rcases hown.2 with ⟨rfl,rfl⟩|⟨g,cap,cur,rfl,hbg,hg,hnc,hcm,hcs,htake⟩
 ·have hx:xs=[]:=List.eq_nil_of_length_eq_zero (by simpa using hown.1)
  subst hx;by_cases hm:m=0
  ·subst hm
   have hn:news=[]:=List.eq_nil_of_length_eq_zero (by simpa using hl);subst hn;refine⟨.slice none 0 0,w,?_,World.ownsRow_nil w base e i.size,⟨rfl,rfl,rfl,Nat.le_refl _,fun _ _ _=>rfl⟩,.inl rfl⟩
   rcases hs.kind with ⟨e',hk⟩|hk<;>simp[Builtin.append_,run_underlying ht,run_underlying hk,sizeOf,typeInfo,hi,hs.len,hs.cells]
  ·have hr:=run_append_grow_src (P:=P) w t tx ty e i z ht hi hz none 0 0 [] (by simp[Builtin.firstCells]) x m news hs (by omega) (by omega) (Dx hbs hbytes)
   have hgr:=grown 0 (by omega) (Value.ownBlock (.slice none 0 0));exact⟨_,_,hr,hgr.1,hgr.2,.inr rfl⟩
 ·by_cases hroom:n+m≤cap
  ·have hfit:n*i.size+news.length≤cur.size:=by rw[hl,hcs,← Nat.add_mul];exact Nat.mul_le_mul_right _ hroom
   have hst:=run_storeCells_at P g (n*i.size) e news 0 cur w hg (by simpa using hfit) hs.one;simp only[Nat.add_zero] at hst
   have hr:(Builtin.append_ #[t,tx] ty #[.slice (some ⟨g,0,none⟩) n cap,x]).run P w =
     .ok (.slice (some ⟨g,0,none⟩) (n+m) cap) (w.setRow g (cur.toList.take (n*i.size)++news++cur.toList.drop (n*i.size+news.length)).toArray):=by
    rcases hs.kind with ⟨e',hk⟩|hk<;>simp[Builtin.append_,run_underlying ht,run_underlying hk,sizeOf,typeInfo,hi,hs.len,hroom,hs.cells,Addr.add_lit,hst]
   refine⟨_,_,hr,⟨hlen,.inr ⟨g,cap,_,rfl,hbg,setRow_heap w g cur _ e _ hg,hroom,hcm,?_,?_⟩⟩,⟨rfl,rfl,rfl,by simp,fun k _ hk=>setRow_other w g k _ (fun e=>hk (by simp[Value.ownBlock,e]))⟩,.inl rfl⟩
   ·simp only[List.size_toArray,List.length_append,List.length_take,List.length_drop,Array.length_toList]
    omega
   ·rw[htake,← hlen]
    exact List.take_left
  ·have holds:∀j u,xs[j]?=some u→w.cell? ((⟨g,0,none⟩:Addr).add j)=some u:=hown.cells (g:=g) rfl
   have hold:=run_firstCells_some (P:=P) w.drew i.size n ⟨g,0,none⟩ n cap xs hown.1 (by simpa using holds);have hr:=run_append_grow_src (P:=P) w t tx ty e i z ht hi hz (some ⟨g,0,none⟩) n cap xs hold x m news hs (by omega) (by omega) (Dx hbs hbytes);have hgr:=grown cap (by omega) (Value.ownBlock (.slice (some ⟨g,0,none⟩) n cap));exact⟨_,_,hr,hgr.1,hgr.2,.inr rfl⟩
theorem BX{o:Oper}{a:Act}{K:Act→World→Prop}{Q:Exit→Act→World→Prop}(s x:Operand){t:TypeId}{tx:TypeId}
  (ho:o.op=.call { callee:=.builtin .append,args:=#[s,x],argTypes:=#[t,tx] })
  (base:Nat) {e:TypeId} (i:TypeInfo) (z:Value) (size bytes:Nat) (ht:P.underlying t=some (.slice e)) (hi:P.info? e=some i) (hz:i.zero=some z)
  (hsize:i.size=size) (hby:i.bytes=bytes) (hzs:z.cells.size=size) (hsz:0<size) (hbs:bytes≤65536)
  (v:Value) (n:Nat) (xs:List Value) (hs:a.eval s=v) (hown:w.ownsRow base e size v n xs)
  (m:Nat) (news:List Value) {xv:Value} (hx:a.eval x=xv) (hsrc:Src P size tx xv m news w)
  (h63:n+m≤maxLen) (hbytes:(n+m)*bytes≤211106232532992) (hbase:base≤w.heap.size)
  (h:∀v' w',w'.ownsRow base e size v' (n+m) (xs++news)→w.grownBy w' v.ownBlock→(v'.ownBlock=v.ownBlock∨v'.ownBlock=some w.heap.size)→K (a.put o.dst v') w'):o.wp P a w K Q:=by
 obtain⟨v',w',hr,h2,h3,h4⟩:=Ak (P:=P) w base t tx o.type e i z size bytes ht hi hz hsize hby hzs hsz hbs v n xs hown xv m news hsrc h63 hbytes hbase;unfold Oper.wp execOp;simp only[ho,resolve,invoke,builtin,Sem.run_bind,Sem.run_pure,Result.andThen_ok,List.map_toArray,List.map_cons,List.map_nil,hs,hx,hr];exact h v' w' h2 h3 h4
end
def adt(t:TypeId)(w w':World):Prop:=∀(g:Nat) (cs:Array Value) (t':TypeId) (fr:Nat×Nat),t'≠t→w.heap[g]?=some (Obj.cells cs t' fr)→w'.heap[g]?=some (Obj.cells cs t' fr)
structure Turns(base:Nat)(t:TypeId)(w w':World):Prop where
 below:Below base w w'
 others:adt t w w'
section
variable {base:Nat}{t:TypeId}{w w1 w2:World}
theorem Turns.refl(base:Nat)(t:TypeId)(w:World):Turns base t w w:=⟨Below.refl _ _,fun _ _ _ _ _ h=>h⟩
theorem Turns.trans(h:Turns base t w w1)(k:Turns base t w1 w2):Turns base t w w2:=⟨h.below.trans k.below,fun g cs t' fr hn hg=>k.others g cs t' fr hn (h.others g cs t' fr hn hg)⟩
theorem Turns.alloc(h:Turns base t w w1)(hb:base≤w1.heap.size)(o:Obj):Turns base t w (w1.alloc o):=
 ⟨h.below.alloc hb o,fun g cs t' fr hn hg=>by
  have h1:=h.others g cs t' fr hn hg
  rw[Below.heap_alloc w1 o g (Array.getElem?_eq_some_iff.1 h1).1];exact h1⟩
theorem Turns.drew(h:Turns base t w w1):Turns base t w w1.drew:=⟨h.below.drew,h.others⟩
theorem Turns.drewN(h:Turns base t w w1)(n:Nat):Turns base t w (w1.drewN n):=⟨h.below.trans ⟨rfl,rfl,rfl,Nat.le_refl _,fun _ _=>rfl⟩,h.others⟩
theorem Turns.grown(h:Turns base t w w1){v:Value}{n size:Nat}{xs:List Value}(hb:base≤w1.heap.size)(hown:w1.ownsRow base t size v n xs)(hg:w1.grownBy w2 v.ownBlock):Turns base t w w2:=by
 refine⟨h.below.grown hg hb (fun k hk=>(hown.lt k hk).1),fun g cs t' fr hn hx=>?_⟩;have h1:=h.others g cs t' fr hn hx;have hlt:=(Array.getElem?_eq_some_iff.1 h1).1;rw[hg.block g hlt (fun e=>?_)]
 ·exact h1
 ·rcases hown.2 with ⟨rfl,_⟩|⟨g',cap,cur,rfl,_,hgg,_⟩
  ·simp[Value.ownBlock] at e
  ·simp[Value.ownBlock] at e
   subst e;rw[hgg] at h1;injection h1 with h1;injection h1 with _ h2 _;exact hn h2.symm
theorem Turns.cell(h:Turns base t w w1){g:Nat}{cs:Array Value}{t':TypeId}{fr:Nat×Nat}(hn:t'≠t)(hg:w.heap[g]?=some (.cells cs t' fr))(i:Nat):w1.cell? ⟨g,i,none⟩=cs[i]?:=
 cell_of_row w1 g i cs t' fr (h.others g cs t' fr hn hg)
theorem Turns.size(h:Turns base t w w1):w.heap.size≤w1.heap.size:=h.below.size
theorem Turns.mono{base':Nat}(h:Turns base t w w1)(hb:base'≤base):Turns base' t w w1:=⟨h.below.mono hb,h.others⟩
end
end
section
structure Lay(P:Program)(α:Type) where
 t:TypeId
 e:TypeId
 k:Nat
 bytes:Nat
 z:Value
 f:α→List Value
 len:∀x,(f x).length=k
 one:∀x,∀u∈f x,u.oneCell'=true
 und:P.underlying t=some (.slice e)
 info:(P.info? e).map (fun i=>(i.zero,i.size,i.bytes))=some (some z,k,bytes)
 zs:z.cells.size=k
 pos:0<k
 small:bytes≤65536
namespace Lay
theorem vO(b o j:Nat):(⟨b,o,none⟩:Addr).add j=⟨b,o+j,none⟩:=by
 unfold Addr.add
 split
 ·rename_i h;subst h;rfl
 ·rfl
theorem fI{α:Type}{l:List α}{k:Nat}(h:k<l.length):∃x,l[k]?=some x:=⟨_,List.getElem?_eq_getElem h⟩
theorem take_succ{α:Type}{l:List α}{k:Nat}{x:α}(h:l[k]?=some x):l.take (k+1)=l.take k++[x]:=by
 rw[List.take_add_one,h];rfl
section
variable {P:Program}{α:Type}(L:Lay P α)
def flat(l:List α):List Value:=l.flatMap L.f
theorem gQ(x:α)(l:List α):L.flat (x::l)=L.f x++L.flat l:=rfl
theorem yQ(a b:List α):L.flat (a++b)=L.flat a++L.flat b:=List.flatMap_append ..
theorem ku(l:List α):(L.flat l).length=l.length*L.k:=by
 induction l with
 | nil=>simp[flat]
 | cons x l ih=>rw[gQ,List.length_append,L.len,ih,List.length_cons,Nat.succ_mul,Nat.add_comm]
theorem flat_get:∀(l:List α) (i:Nat) (x:α),l[i]?=some x→∀j u,(L.f x)[j]?=some u→(L.flat l)[i*L.k+j]?=some u
 | y::l,0,x,h,j,u,hu=>by
  simp at h;subst h;have hj:=(List.getElem?_eq_some_iff.1 hu).1;rw[gQ,Nat.zero_mul,Nat.zero_add,List.getElem?_append_left hj];exact hu
 | y::l,i+1,x,h,j,u,hu=>by
  rw[List.getElem?_cons_succ] at h;have ih:=flat_get l i x h j u hu;have h1:=L.len y;have h2:(i+1)*L.k=i*L.k+L.k:=Nat.succ_mul i L.k;rw[gQ,List.getElem?_append_right (by rw[h1];omega),h1,show(i+1)*L.k+j-L.k=i*L.k+j from by omega];exact ih
theorem Na:∀(l:List α) (j:Nat) (u:Value),(L.flat l)[j]?=some u→∃i x q,l[i]?=some x∧(L.f x)[q]?=some u∧j=i*L.k+q
 | [],j,u,h=>by simp[flat] at h
 | y::l,j,u,h=>by
  rw[gQ] at h;have h1:=L.len y
  rcases Nat.lt_or_ge j L.k with hj|hj
  ·rw[List.getElem?_append_left (by rw[h1];exact hj)] at h
   exact⟨0,y,j,rfl,h,by omega⟩
  ·rw[List.getElem?_append_right (by rw[h1];exact hj),h1] at h
   obtain⟨i,x,q,hx,hq,e⟩:=Na l _ u h;refine⟨i+1,x,q,by rw[List.getElem?_cons_succ];exact hx,hq,?_⟩;have h2:(i+1)*L.k=i*L.k+L.k:=Nat.succ_mul i L.k;omega
theorem UR(l:List α):∀u∈L.flat l,u.oneCell'=true:=fun u hu=>by
 obtain⟨x,_,hx⟩:=List.mem_flatMap.1 hu;exact L.one x u hx
def At(w:World)(b o i:Nat)(x:α):Prop:=∀j u,(L.f x)[j]?=some u→w.cell? ⟨b,o+i*L.k+j,none⟩=some u
def Reads(w:World)(B:Nat)(A:Option Addr)(l:List α):Prop:=
 0<l.length→∃b o,A=some ⟨b,o,none⟩∧b<B∧∀i x,l[i]?=some x→L.At w b o i x
def Own(base:Nat)(w:World)(v:Value)(l:List α):Prop:=w.ownsRow base L.e L.k v l.length (L.flat l)
end
section
variable {P:Program}{α:Type}{L:Lay P α}{w w':World}{B B' b o base:Nat}{A:Option Addr}{l:List α}{v:Value}
theorem At.keep{i:Nat}{x:α}(h:L.At w b o i x)(hk:∀p:Addr,p.block=b→w'.cell? p=w.cell? p):L.At w' b o i x:=fun j u hu=>by
 rw[hk _ rfl];exact h j u hu
theorem Reads.keep(h:L.Reads w B A l)(hk:∀p:Addr,p.block<B→w'.cell? p=w.cell? p):L.Reads w' B A l:=fun hn=>by
 obtain⟨b,o,hA,hb,hc⟩:=h hn;exact⟨b,o,hA,hb,fun i x hx=>(hc i x hx).keep fun p hp=>hk p (by omega)⟩
theorem Reads.below(h:L.Reads w B A l)(hb:Below B w w'):L.Reads w' B A l:=h.keep fun _ hp=>hb.cell hp
theorem Reads.more(h:L.Reads w B A l)(hb:B≤B'):L.Reads w B' A l:=fun hn=>by
 obtain⟨b,o,hA,hb',hc⟩:=h hn;exact⟨b,o,hA,by omega,hc⟩
theorem Reads.later(h:L.Reads w B A l)(hb:Below B w w')(hB:B≤w.heap.size):L.Reads w' w'.heap.size A l:=(h.below hb).more (Nat.le_trans hB hb.size)
theorem Reads.drewN(h:L.Reads w B A l)(n:Nat):L.Reads (w.drewN n) B A l:=h
theorem Reads.nil(w:World)(B:Nat)(A:Option Addr):L.Reads w B A []:=fun h=>absurd h (by simp)
theorem Reads.take(h:L.Reads w B A l)(q:Nat):L.Reads w B A (l.take q):=fun hn=>by
 obtain⟨b,o,hA,hb,hc⟩:=h (by rw[List.length_take] at hn;omega);refine⟨b,o,hA,hb,fun i x hx=>?_⟩;rw[List.getElem?_take] at hx
 split at hx
 ·exact hc i x hx
 ·cases hx
theorem Reads.drop(h:L.Reads w B (some ⟨b,o,none⟩) l)(q:Nat):L.Reads w B (some ⟨b,o+q*L.k,none⟩) (l.drop q):=fun hn=>by
 obtain⟨b',o',hA,hb,hc⟩:=h (by rw[List.length_drop] at hn;omega);injection hA with hA;injection hA with h1 h2;subst h1 h2;refine⟨b,o+q*L.k,rfl,hb,fun i x hx j u hu=>?_⟩;rw[List.getElem?_drop] at hx;have h1:=hc _ x hx j u hu;rw[Nat.add_mul] at h1;rw[show o+q*L.k+i*L.k+j=o+(q*L.k+i*L.k)+j from by omega];exact h1
theorem Reads.block(h:L.Reads w B (some ⟨b,o,none⟩) l)(hn:0<l.length):b<B∧∀i x,l[i]?=some x→L.At w b o i x:=by
 obtain⟨b',o',hA,hb,hc⟩:=h hn;injection hA with hA;injection hA with h1 h2;subst h1 h2;exact⟨hb,hc⟩
theorem Own.shape(h:L.Own base w v l):∃A c,v=.slice A l.length c:=by
 rcases h.2 with ⟨rfl,h0⟩|⟨g,cap,cur,rfl,_⟩
 ·exact⟨none,0,by rw[h0]⟩
 ·exact⟨_,_,rfl⟩
theorem Own.alloc(h:L.Own base w v l)(o:Obj):L.Own base (w.alloc o) v l:=World.ownsRow.alloc h o
theorem Own.drew(h:L.Own base w v l):L.Own base w.drew v l:=h
theorem Own.drewN(h:L.Own base w v l)(n:Nat):L.Own base (w.drewN n) v l:=h
theorem Own.below(h:L.Own base w v l)(b:Below w.heap.size w w'):L.Own base w' v l:=by
 refine⟨h.1,?_⟩
 rcases h.2 with h0|⟨g,cap,cur,hv,hb,hg,hr⟩
 ·exact .inl h0
 ·exact .inr ⟨g,cap,cur,hv,hb,by rw[b.block g (Array.getElem?_eq_some_iff.1 hg).1];exact hg,hr⟩
theorem Own.mono(h:L.Own base w v l){base':Nat}(hb:base'≤base):L.Own base' w v l:=World.ownsRow.mono h hb
theorem Own.turned(h:L.Own base w v l){t:TypeId}(hne:L.e≠t){w0:Nat}(b:Turns w0 t w w'):L.Own base w' v l:=by
 refine⟨h.1,?_⟩
 rcases h.2 with h0|⟨g,cap,cur,hv,hb,hg,hr⟩
 ·exact .inl h0
 ·exact .inr ⟨g,cap,cur,hv,hb,b.others g _ _ _ hne hg,hr⟩
theorem Own.reads{n c:Nat}(h:L.Own base w (.slice A n c) l):n=l.length∧L.Reads w w.heap.size A l:=by
 have hc:=fun g=>World.ownsRow.cells h (g:=g)
 rcases h.2 with ⟨h1,h0⟩|⟨g,cap,cur,h1,_,hg,_⟩
 ·injection h1 with h1 h2 h3
  subst h1 h2 h3;exact⟨h0.symm,fun hp=>absurd hp (by omega)⟩
 ·injection h1 with h1 h2 h3
  subst h1 h2 h3;refine⟨rfl,fun _=>⟨g,0,rfl,(Array.getElem?_eq_some_iff.1 hg).1,fun i x hx j u hu=>?_⟩⟩;have h3:=hc g rfl _ _ (L.flat_get l i x hx j u hu);rw[vO] at h3;rw[Nat.zero_add] at h3 ⊢;exact h3
theorem Own.block(h:L.Own base w v l)(hl:l≠[]):∃g c,v=.slice (some ⟨g,0,none⟩) l.length c∧l.length≤c∧base≤g∧g<w.heap.size∧∀i x,l[i]?=some x→L.At w g 0 i x:=by
 have h0:0<l.length:=List.length_pos_iff.2 hl;have h2:=h.2;obtain⟨A,c,hv⟩:=h.shape;subst hv;obtain⟨_,hi⟩:=h.reads
 rcases h2 with ⟨h1,h3⟩|⟨g,cap,cur,h1,hb0,hg,hnc,_⟩
 ·omega
 ·injection h1 with e1 e2 e3
  subst e1 e3;obtain⟨b,o,e,hb,hc⟩:=hi h0;injection e with e;injection e with e1 e2;subst e1 e2;exact⟨g,_,rfl,hnc,hb0,hb,hc⟩
theorem Own.cap{n c:Nat}(h:L.Own base w (.slice A n c) l):l.length≤c:=by
 rcases h.2 with ⟨h1,h3⟩|⟨g,cap,cur,h1,hb0,hg,hnc,_⟩
 ·omega
 ·injection h1 with e1 e2 e3
  subst e3;exact hnc
theorem Own.none(w:World)(base:Nat):L.Own base w (.slice none 0 0) []:=World.ownsRow_nil w base L.e L.k
theorem Own.new(w:World)(l:List α)(C:Array Value)(g n c:Nat)(hC:C=(L.flat l).toArray)(hb:base≤w.heap.size)(hg:g=w.heap.size)(hn:n=l.length)(hc:c=l.length)(hl:l.length≤65536):
  L.Own base (w.alloc (.cells C L.e)) (.slice (some ⟨g,0,Option.none⟩) n c) l:=by
 subst hC hg hn hc;refine⟨L.ku l,.inr ⟨w.heap.size,l.length,_,rfl,hb,heap_alloc_new w _,Nat.le_refl _,by unfold maxLen;omega,?_,?_⟩⟩
 ·simp[L.ku]
 ·exact List.take_of_length_le (by simp[L.ku])
theorem Reads.src(c:Nat)(h:L.Reads w B A l)(hA:A=none→l=[]):Src P L.k L.t (.slice A l.length c) l.length (L.flat l) w:=by
 match A,h,hA with
 | none,_,hA=>
  obtain rfl:=hA rfl;exact Src.ofNil w L.und c
 | some a,h,_=>
  refine Src.ofSlice w L.und a l.length c (L.flat l) (L.ku l) (fun j u hu=>?_) (L.UR l);obtain⟨i,x,q,h1,h2,h3⟩:=L.Na l j u hu;have hj:i<l.length:=(List.getElem?_eq_some_iff.1 h1).1;obtain⟨b,o,ha,_,hc⟩:=h (by omega);injection ha with ha;subst ha;rw[vO,h3,← Nat.add_assoc];exact hc i x h1 q u h2
theorem Reads.new(L:Lay P α)(w:World)(ys:List α)(C:Array Value)(hC:C=(L.flat ys).toArray):L.Reads (w.alloc (.cells C L.e)) (w.alloc (.cells C L.e)).heap.size (some ⟨w.heap.size,0,none⟩) ys:=fun _=>by
 subst hC;refine⟨w.heap.size,0,rfl,by simp,fun i x hx j u hu=>?_⟩;rw[Nat.zero_add,World.cell?_alloc_new]
 simpa using L.flat_get ys i x hx j u hu
end
end Lay
end
namespace Lift
open Go.ChangeShapes Go.WideShapes Go.ChangeAt Go.RowKit
section
variable {H:Type}{enc:TypeId×Value→H}{P:Program}
def Fits(s:ChangeSpec)(n:Nat):Prop:=
 ∀(H:Type) (ds:List (DataW H)),ds.length=n→s.fn H ds = { results:=[.lit (.bool true)],args:=ds }
theorem uI(hl:laidOutB P=true){W W':World}(hb:Below W.heap.size W W'):
  ∀(ts:List TypeId),(ts.all fun t=>P.readableRec t&&decide (t<P.types.size))=true→∀(vs:List Value) (ds:List (DataW H)) (ps:List MemPlace),
   DataW.TrodAll enc P W 0 (fun _=>true) true ts vs ds ps→DataW.TrodAll enc P W' 0 (fun b=>decide (b<W.heap.size)) true ts vs ds ps
 | [],_,vs,ds,ps,h=>by
  obtain⟨rfl,rfl,rfl⟩:=trodAll_nil h;exact rfl
 | t::ts,ha,vs,ds,ps,h=>by
  obtain⟨v,vs',d,ds',p,q,rfl,rfl,rfl,h0,hr⟩:=trodAll_cons h;simp only[List.all_cons,Bool.and_eq_true,decide_eq_true_eq] at ha;have lt:∀x∈p,x.block<W.heap.size:=by obtain⟨m,hm⟩:=h0;exact DataW.trod_lt m _ _ _ hm
  exact trodAll_cons_mk (Below.trod hl ha.1.1 ha.1.2 h0 hb lt) (uI hl hb ts (by simpa using ha.2) _ _ _ hr)
theorem trodAll_length{W:World}:∀(ts:List TypeId) (vs:List Value) (ds:List (DataW H)) (ps:List MemPlace),
  DataW.TrodAll enc P W 0 (fun _=>true) true ts vs ds ps→ds.length=ts.length
 | [],vs,ds,ps,h=>by obtain⟨rfl,rfl,rfl⟩:=trodAll_nil h;rfl
 | t::ts,vs,ds,ps,h=>by
  obtain⟨v,vs',d,ds',p,q,rfl,rfl,rfl,h0,hr⟩:=trodAll_cons h;simp[trodAll_length ts _ _ _ hr]
theorem Tz{fn:Func}{s:ChangeSpec}(hl:laidOutB P=true)(hf:Fits s fn.params.size)(hv:s.vars=[]){tb:TypeId}(hres:fn.resultTypes=#[tb])(hb:P.underlying tb=some .bool)
  (hread:(fn.params.toList.all fun t=>P.readableRec t&&decide (t<P.types.size))=true)
  {W W':World} {args:Array Value} {ds gs:List (DataW H)} {before:List MemPlace} (hW:DataW.Whole enc P fn.params.toList s.vars false W args.toList ds gs before) (bel:Below W.heap.size W W') :
  s.post enc P fn false true false false W args (.bool true) W':=by
 have hW':=hW;obtain⟨p,q,hA,hV,rfl,hfz,hnd⟩:=hW;have hV':DataW.TrodVars enc P W (fun _=>true) [] gs q:=by rw[← hv];exact hV
 obtain⟨rfl,rfl⟩:=trodVars_none hV';have hn:ds.length=fn.params.size:=by simpa using trodAll_length _ _ _ _ hA
 have hs:s.fn H (ds++[]) = { results:=[.lit (.bool true)],args:=ds }:=by rw[List.append_nil];exact hf H ds hn
 refine⟨ds,[],p++[],[],p,[],hW',?_,?_,?_,bel.frame _,fun h=>by cases h⟩
 ·rw[hs,hres]
  exact trodAll_mk1 (shut_bool hb _)
 ·rw[hs]
  exact uI hl bel _ hread _ _ _ hA
 ·rw[hs,hv]
  exact rfl
end
def Given{H:Type}(enc:TypeId×Value→H)(P:Program)(ts:List TypeId)(W:World)(base:Nat)(args:List Value)(ds:List (DataW H))(before:List MemPlace):Prop:=
 DataW.TrodAll enc P W 0 (fun _=>true) true ts args ds before∧
 (∀(j:Nat) t v,ts[j]?=some t→args[j]?=some v→Value.okWide P W .any base t v)∧
 W.noneFrozen before∧(DataW.weightsEach P ts ds).all (·≤reachBytes)=true
def Yes(P:Program)(f:FuncId)(args:Array Value)(W:World):Prop:=
 Calls P f args W fun e W'=>e=.returned (.bool true)∧Below W.heap.size W W'
theorem law{C:Checked}{os:Os}{f:FuncId}{fn:Func}{s:ChangeSpec}{conds:List PathCond}{H:Type}{enc:TypeId×Value→H}
  (own:ownKnob C.prog.godebug=none) (started:os.Started) (noInit:C.prog.inits.idxOf? f=none) (hfn:C.prog.funcs[f]?=some fn)
  (hl:laidOutB C.prog=true) (hf:Fits s fn.params.size) (hv:s.vars=[]) {tb:TypeId} (hres:fn.resultTypes=#[tb]) (hb:C.prog.underlying tb=some .bool)
  (hread:(fn.params.toList.all fun t=>C.prog.readableRec t&&decide (t<C.prog.types.size))=true)
  (witness:∃(w:World) (tape:Tape) (i:Input),w.os=os∧(w.forCall tape i).Shaped C.prog∧i.vars=[]∧Input.okWide C.prog (w.forCall tape i) .any w.heap.size f i∧
   s.pre6 enc C.prog fn conds false (w.forCall tape i).memory i.args∧({}:Assume).holds C.prog (lone (Frame.enter C.prog f i.args .normal) [] (w.forCall tape i)))
  (contract:∀(W:World) (base:Nat) (args:Array Value) (ds:List (DataW H)) (before:List MemPlace),
   Given enc C.prog fn.params.toList W base args.toList ds before→Yes C.prog f args W) :
  ReturnsInHanded {} C os f .any (s.pre6 enc C.prog fn conds false) (s.post enc C.prog fn false true false false):=by
 refine returnsInHanded_of_change_sized own started noInit hfn witness ?_;intro W base args ds gs before hval hW _ hsz _;have hW':=hW;obtain⟨p,q,hA,hV,rfl,hfz,hnd⟩:=hW;have hV':DataW.TrodVars enc C.prog W (fun _=>true) [] gs q:=by rw[← hv];exact hV
 obtain⟨rfl,rfl⟩:=trodVars_none hV'
 have hpv:s.plain.varTypes C.prog=[]:=by
  unfold ChangeSpec.plain;rw[hv]
  rfl
 rw[hpv,List.append_nil,List.append_nil] at hsz;rw[List.append_nil] at hfz;refine(contract W base args ds p ⟨hA,fun j t v ht hv=>hval j t v (by simpa using ht) (by simpa using hv),hfz,hsz⟩).mono fun e W' ⟨he,bel⟩=>?_
 exact⟨_,he,Tz hl hf hv hres hb hread hW' bel⟩
section
variable {H:Type}{enc:TypeId×Value→H}{P:Program}{W:World}{base:Nat}
theorem Given.cons{t:TypeId}{ts:List TypeId}{args:List Value}{ds:List (DataW H)}{before:List MemPlace}(h:Given enc P (t::ts) W base args ds before):
  ∃v vs d ds' p q,args=v::vs∧ds=d::ds'∧before=p++q∧DataW.Trod enc P W 0 (fun _=>true) true t v d p∧Value.okWide P W .any base t v∧W.noneFrozen p∧
   (d.weights P t).all (·≤reachBytes)=true∧Given enc P ts W base vs ds' q:=by
 obtain⟨h1,h2,h3,h4⟩:=h;obtain⟨v,vs,d,ds',p,q,rfl,rfl,rfl,h0,hr⟩:=trodAll_cons h1;simp only[DataW.weightsEach,List.all_append,Bool.and_eq_true] at h4
 exact⟨v,vs,d,ds',p,q,rfl,rfl,rfl,h0,h2 0 t v rfl rfl,fun b o hm=>h3 b o (List.mem_append_left _ hm),h4.1,
  hr,fun j t' v' ht hv=>h2 (j+1) t' v' ht hv,fun b o hm=>h3 b o (List.mem_append_right _ hm),h4.2⟩
theorem Given.nil{args:List Value}{ds:List (DataW H)}{before:List MemPlace}(h:Given enc P [] W base args ds before):args=[]∧ds=[]:=by
 obtain⟨rfl,rfl,_⟩:=trodAll_nil h.1;exact ni
theorem Given.int{t:TypeId}{ts:List TypeId}{k:IntKind}{args:List Value}{ds:List (DataW H)}{before:List MemPlace}(ht:P.underlying t=some (.int k))(h:Given enc P (t::ts) W base args ds before):
  ∃(n:Int) (vs:List Value) (ds':List (DataW H)) (q:List MemPlace),args=.int k n::vs∧ds=.lit (.int k n)::ds'∧(Lit.int k n).wf=true∧Given enc P ts W base vs ds' q:=by
 obtain⟨v,vs,d,ds',p,q,rfl,rfl,rfl,h0,hok,_,_,hg⟩:=h.cons;obtain⟨n,rfl,rfl,rfl,hwf⟩:=open_int ht hok h0;exact⟨n,vs,ds',q,rfl,rfl,hwf,hg⟩
theorem Given.bool{t:TypeId}{ts:List TypeId}{args:List Value}{ds:List (DataW H)}{before:List MemPlace}(ht:P.underlying t=some .bool)(h:Given enc P (t::ts) W base args ds before):
  ∃(b:Bool) (vs:List Value) (ds':List (DataW H)) (q:List MemPlace),args=.bool b::vs∧ds=.lit (.bool b)::ds'∧Given enc P ts W base vs ds' q:=by
 obtain⟨v,vs,d,ds',p,q,rfl,rfl,rfl,h0,hok,_,_,hg⟩:=h.cons;obtain⟨b,rfl,rfl,rfl⟩:=open_bool ht hok h0;exact⟨b,vs,ds',q,rfl,rfl,hg⟩
end
theorem afO{s:ChangeSpec}(h:∀(H:Type) (a:DataW H),s.fn H [a] = { results:=[.lit (.bool true)],args:=[a] }):Fits s 1
 | H,[a],_=>h H a
theorem afN{s:ChangeSpec}(h:∀(H:Type) (a b:DataW H),s.fn H [a,b] = { results:=[.lit (.bool true)],args:=[a,b] }):Fits s 2
 | H,[a,b],_=>h H a b
theorem NI{args:Array Value}{l:List Value}(h:args.toList=l):args=l.toArray:=by cases args;simp_all
end Lift
section
def gD(w:World)(g:Nat)(t:TypeId)(cs:Array Value):Prop:=w.heap[g]?=some (.cells cs t (0,0))
section
variable {w w':World}{g:Nat}{t:TypeId}{cs:Array Value}
theorem gD.lt(h:gD w g t cs):g<w.heap.size:=(Array.getElem?_eq_some_iff.1 h).1
theorem gD.cell(h:gD w g t cs)(i:Nat):w.cell? ⟨g,i,none⟩=cs[i]?:=cell_of_row w g i cs t (0,0) h
theorem gD.frozen(h:gD w g t cs)(i:Nat):w.frozen? ⟨g,i,none⟩=false:=by
 unfold gD at h;simp[World.frozen?,h]
theorem gD.new(w:World)(t:TypeId)(cs:Array Value):gD (w.alloc (.cells cs t)) w.heap.size t cs:=heap_alloc_new w _
theorem gD.drewN(h:gD w g t cs)(n:Nat):gD (w.drewN n) g t cs:=h
theorem gD.alloc(h:gD w g t cs)(o:Obj):gD (w.alloc o) g t cs:=(Below.heap_alloc w o g h.lt).trans h
theorem gD.abF(h:gD w g t cs)(i:Nat)(u:Value):gD (w.setCell ⟨g,i,none⟩ u) g t (cs.setIfInBounds i u):=by
 unfold gD at h ⊢;simp[World.setCell,Array.getElem?_modify,h]
theorem gD.far(h:gD w g t cs){p:Addr}(hp:g≠p.block)(u:Value):gD (w.setCell p u) g t cs:=(Below.heap_setCell w p u g hp).trans h
theorem gD.below{B:Nat}(h:gD w g t cs)(hb:Below B w w')(hg:g<B):gD w' g t cs:=(hb.block g hg).trans h
theorem gD.turned{t':TypeId}{w0:Nat}(h:gD w g t cs)(b:Turns w0 t' w w')(hne:t≠t'):gD w' g t cs:=b.others g cs t (0,0) hne h
theorem gD.row(h:gD w g t cs){g':Nat}(hne:g≠g')(cs':Array Value):gD (w.setRow g' cs') g t cs:=(setRow_other w g' g cs' hne).trans h
theorem JR(h:gD w g t cs){base:Nat}(hb:base≤g)(i:Nat)(u:Value):Turns base t w (w.setCell ⟨g,i,none⟩ u):=by
 refine⟨(Below.refl base w).setCell (p:=⟨g,i,none⟩) hb u,fun k cs2 t' fr hn hk=>?_⟩;rw[Below.heap_setCell w ⟨g,i,none⟩ u k ?_]
 ·exact hk
 ·rintro rfl
  unfold gD at h;rw[h] at hk;injection hk with hk;injection hk with _ h2 _;exact hn h2.symm
end
section
variable {P:Program}{ops:Array Oper}{rest:List Oper}{o:Oper}{a:Act}{w:World}{Q:Exit→Act→World→Prop}
structure Stored(base g:Nat)(t:TypeId)(cs:Array Value)(w w':World):Prop where
 turns:Turns base t w w'
 blk:gD w' g t cs
 far:∀{g':Nat} {t':TypeId} {cs':Array Value},gD w g' t' cs'→g'≠g→gD w' g' t' cs'
 size:w'.heap.size=w.heap.size
end
theorem gD.hb{w w':World}{g:Nat}{t:TypeId}{cs:Array Value}(h:Hid (gD w g t cs))(hb:Below w.heap.size w w'):Hid (gD w' g t cs):=zH (h.out.below hb h.out.lt)
theorem gD.one{w:World}{g:Nat}{t:TypeId}{cs:Array Value}(h:Hid (gD w g t cs))(i:Nat){v:Value}(hv:cs[i]?=some v):w.cell? ⟨g,i,none⟩=some v∧w.frozen? ⟨g,i,none⟩=false:=
 ⟨(h.out.cell i).trans hv,h.out.frozen i⟩
theorem Lay.Own.cell{P:Program}{α:Type}{L:Lay P α}{w:World}{base g:Nat}{t:TypeId}{cs:Array Value}{v:Value}{l:List α}(h:L.Own base w v l)(hb:gD w g t cs)(hne:L.e≠t)(i:Nat)(u:Value):L.Own base (w.setCell ⟨g,i,Option.none⟩ u) v l:=
 h.turned hne (JR hb (Nat.zero_le _) i u)
theorem Lay.Own.far{P:Program}{α:Type}{L:Lay P α}{w w':World}{base b g:Nat}{t:TypeId}{cs:Array Value}{v:Value}{l:List α}(h:L.Own base w v l)(hs:Stored b g t cs w w')(hg:g<base):L.Own base w' v l:=by
 refine⟨h.1,?_⟩
 rcases h.2 with h0|⟨g',cap,cur,hv,hb,hg',hr⟩
 ·exact .inl h0
 ·exact .inr ⟨g',cap,cur,hv,hb,hs.far hg' (by omega),hr⟩
def Apart(u v:Value):Prop:=∀k,u.ownBlock=some k→v.ownBlock≠some k
theorem Apart.symm{u v:Value}(h:Apart u v):Apart v u:=fun k hk h'=>h k h' hk
structure Zl{P:Program}{α:Type}(L:Lay P α)(base:Nat)(w:World)(v:Value)(w':World)(v':Value)(l:List α):Prop where
 own:L.Own base w' v' l
 far:∀{g:Nat} {t:TypeId} {cs:Array Value},gD w g t cs→v.ownBlock≠some g→gD w' g t cs
 blk:v'.ownBlock=v.ownBlock∨∃j,v'.ownBlock=some j∧w.heap.size≤j
 below:Below base w w'
section
variable {P:Program}{α β:Type}{L:Lay P α}{M:Lay P β}{base b2:Nat}{w w':World}{v v' u:Value}{l:List α}{lu:List β}
theorem Zl.row(h:Zl L base w v w' v' l)(hu:M.Own b2 w u lu)(ha:Apart u v):M.Own b2 w' u lu:=by
 refine⟨hu.1,?_⟩
 rcases hu.2 with h0|⟨g',cap,cur,hv,hb,hg',hr⟩
 ·exact .inl h0
 ·exact .inr ⟨g',cap,cur,hv,hb,h.far hg' (ha g' (by rw[hv];rfl)),hr⟩
theorem Zl.size(h:Zl L base w v w' v' l):w.heap.size≤w'.heap.size:=h.below.size
end
end
section
abbrev dA:=TypeId×Nat×Value×Nat×List Value
def row{P:Program}{α:Type}(L:Lay P α)(v:Value)(l:List α):dA:=(L.e,L.k,v,l.length,L.flat l)
structure Kn(b0:Nat)(w0 w:World)(L:List (Nat×TypeId×Array Value))(R:List dA):Prop where
 b:Below b0 w0 w
 m:b0≤w.heap.size
 l:∀(i:Nat) x,L[i]?=some x→b0≤x.1∧gD w x.1 x.2.1 x.2.2
 r:∀(i:Nat) y,R[i]?=some y→w.ownsRow b0 y.1 y.2.1 y.2.2.1 y.2.2.2.1 y.2.2.2.2
 ll:∀(i j:Nat) x y,L[i]?=some x→L[j]?=some y→i≠j→x.1≠y.1
 lr:∀(i j:Nat) x y,L[i]?=some x→R[j]?=some y→y.2.2.1.ownBlock≠some x.1
 rr:∀(i j:Nat) x y,R[i]?=some x→R[j]?=some y→i≠j→Apart x.2.2.1 y.2.2.1
section
variable {b0:Nat}{w0 w w':World}{L:List (Nat×TypeId×Array Value)}{R:List dA}
theorem Kn.start(w:World):Kn w.heap.size w w [] []:=⟨Below.refl _ w,Nat.le_refl _,fun i x h=>by simp at h,fun i x h=>by simp at h,fun i j x y h=>by simp at h,fun i j x y h=>by simp at h,fun i j x y h=>by simp at h⟩
theorem Kn.base(h:Kn b0 w0 w L R){b:Nat}(hb:b≤b0):Kn b w0 w L R:=
 ⟨h.b.mono hb,Nat.le_trans hb h.m,fun i x hx=>⟨Nat.le_trans hb (h.l i x hx).1,(h.l i x hx).2⟩,fun i y hy=>World.ownsRow.mono (h.r i y hy) hb,h.ll,h.lr,h.rr⟩
theorem KI{b e s:Nat}{v:Value}{n:Nat}{xs:List Value}(h:w.ownsRow b e s v n xs)(hb:Below w.heap.size w w'):w'.ownsRow b e s v n xs:=by
 refine⟨h.1,?_⟩
 rcases h.2 with h0|⟨g,cap,cur,hv,hb',hg,hr⟩
 ·exact .inl h0
 ·exact .inr ⟨g,cap,cur,hv,hb',by rw[hb.block g (Array.getElem?_eq_some_iff.1 hg).1];exact hg,hr⟩
theorem Kn.call(h:Kn b0 w0 w L R)(hb:Below w.heap.size w w'):Kn b0 w0 w' L R:=
 ⟨h.b.trans (hb.mono h.m),Nat.le_trans h.m hb.size,fun i x hx=>⟨(h.l i x hx).1,(h.l i x hx).2.below hb (h.l i x hx).2.lt⟩,fun i y hy=>KI (h.r i y hy) hb,h.ll,h.lr,h.rr⟩
theorem iy{b0:Nat}{w0 w w':World}{L:List (Nat×TypeId×Array Value)}{R:List dA}(h:Hid (Kn b0 w0 w L R))(hb:Below w.heap.size w w'):Hid (Kn b0 w0 w' L R):=Lib.hid (h.out.call hb)
theorem Kn.drew(h:Kn b0 w0 w L R):Kn b0 w0 w.drew L R:=h.call ((Below.refl _ w).drew)
theorem Kn.drewN(h:Kn b0 w0 w L R)(n:Nat):Kn b0 w0 (w.drewN n) L R:=h.call ⟨rfl,rfl,rfl,Nat.le_refl _,fun _ _=>rfl⟩
theorem Kn.FC(h:Kn b0 w0 w L R)(o:Obj):Kn b0 w0 (w.alloc o) L R:=h.call ((Below.refl _ w).alloc (Nat.le_refl _) o)
theorem lK{b e s:Nat}{v:Value}{n:Nat}{xs:List Value}{g:Nat}(h:w.ownsRow b e s v n xs)(hg:v.ownBlock=some g):b≤g∧g<w.heap.size:=World.ownsRow.lt h g hg
theorem Kn.add(h:Kn b0 w0 w L R){g:Nat}{t:TypeId}{cs:Array Value}(hk:gD w g t cs)(hb:b0≤g)(hl:∀(i:Nat) x,L[i]?=some x→x.1≠g)(hr:∀(i:Nat) y,R[i]?=some y→y.2.2.1.ownBlock≠some g):Kn b0 w0 w (L++[(g,t,cs)]) R:=by
 have key:∀(i:Nat) x,(L++[(g,t,cs)])[i]?=some x→L[i]?=some x∨(i=L.length∧x=(g,t,cs)):=fun i x hx=>by
  rcases Nat.lt_trichotomy i L.length with hi|hi|hi
  ·rw[List.getElem?_append_left hi] at hx;exact .inl hx
  ·subst hi;simp at hx;exact .inr ⟨rfl,hx.symm⟩
  ·rw[List.getElem?_eq_none (by simp;omega)] at hx;cases hx
 refine⟨h.b,h.m,fun i x hx=>?_,h.r,fun i j x y hx hy hij=>?_,fun i j x y hx hy=>?_,h.rr⟩
 ·rcases key i x hx with hx|⟨_,rfl⟩
  ·exact h.l i x hx
  ·exact⟨hb,hk⟩
 ·rcases key i x hx with hx|⟨e1,rfl⟩<;>rcases key j y hy with hy|⟨e2,rfl⟩
  ·exact h.ll i j x y hx hy hij
  ·exact hl i x hx
  ·exact fun e=>hl j y hy e.symm
  ·omega
 ·rcases key i x hx with hx|⟨_,rfl⟩
  ·exact h.lr i j x y hx hy
  ·exact hr j y hy
theorem Kn.afZ(h:Kn b0 w0 w L R){y:dA}(hk:w.ownsRow b0 y.1 y.2.1 y.2.2.1 y.2.2.2.1 y.2.2.2.2)(hl:∀(i:Nat) x,L[i]?=some x→y.2.2.1.ownBlock≠some x.1)(hr:∀(i:Nat) x,R[i]?=some x→Apart x.2.2.1 y.2.2.1):Kn b0 w0 w L (R++[y]):=by
 have key:∀(i:Nat) x,(R++[y])[i]?=some x→R[i]?=some x∨(i=R.length∧x=y):=fun i x hx=>by
  rcases Nat.lt_trichotomy i R.length with hi|hi|hi
  ·rw[List.getElem?_append_left hi] at hx;exact .inl hx
  ·subst hi;simp at hx;exact .inr ⟨rfl,hx.symm⟩
  ·rw[List.getElem?_eq_none (by simp;omega)] at hx;cases hx
 refine⟨h.b,h.m,h.l,fun i x hx=>?_,h.ll,fun i j x z hx hz=>?_,fun i j x z hx hz hij=>?_⟩
 ·rcases key i x hx with hx|⟨_,rfl⟩
  ·exact h.r i x hx
  ·exact hk
 ·rcases key j z hz with hz|⟨_,rfl⟩
  ·exact h.lr i j x z hx hz
  ·exact hl i x hx
 ·rcases key i x hx with hx1|⟨e1,rfl⟩<;>rcases key j z hz with hz1|⟨e2,rfl⟩
  ·exact h.rr i j x z hx1 hz1 hij
  ·exact hr i x hx1
  ·exact(hr j z hz1).symm
  ·omega
theorem Kn.alloc(h:Kn b0 w0 w L R)(t:TypeId)(cs:Array Value):Kn b0 w0 (w.alloc (.cells cs t)) (L++[(w.heap.size,t,cs)]) R:=
 (h.FC _).add (gD.new w t cs) h.m (fun i x hx e=>Nat.lt_irrefl _ (e▸(h.l i x hx).2.lt)) (fun i y hy e=>Nat.lt_irrefl _ (lK (h.r i y hy) e).2)
theorem Kn.called(h:Kn b0 w0 w L R)(hb:Below w.heap.size w w'){P:Program}{α:Type}{La:Lay P α}{v:Value}{l:List α}(ho:La.Own w.heap.size w' v l):Kn b0 w0 w' L (R++[row La v l]):=by
 refine(h.call hb).afZ (y:=row La v l) (World.ownsRow.mono ho h.m) (fun i x hx e=>?_) (fun i x hx k hk e=>?_)
 ·have:=(World.ownsRow.lt ho _ e).1
  have:=(h.l i x hx).2.lt;omega
 ·have:=(World.ownsRow.lt ho _ e).1
  have:=(lK (h.r i x hx) hk).2;omega
theorem Kn.wE(h:Kn b0 w0 w L R){P:Program}{α:Type}(La:Lay P α):Kn b0 w0 w L (R++[row La (.slice none 0 0) []]):=
 h.afZ (y:=row La (.slice none 0 0) []) (Lay.Own.none w b0) (fun _ _ _ e=>by cases e) (fun _ _ _ _ _ e=>by cases e)
theorem Kn.own{P:Program}{α:Type}{La:Lay P α}{v:Value}{l:List α}(h:Kn b0 w0 w L R)(i:Nat)(hi:R[i]?=some (row La v l)):La.Own b0 w v l:=h.r i _ hi
theorem Kn.blk(h:Kn b0 w0 w L R)(i:Nat){g:Nat}{t:TypeId}{cs:Array Value}(hi:L[i]?=some (g,t,cs)):gD w g t cs:=(h.l i _ hi).2
theorem Kn.cell(h:Kn b0 w0 w L R)(i:Nat){g:Nat}{t:TypeId}{cs:Array Value}(hi:L[i]?=some (g,t,cs))(j:Nat){v:Value}(hj:cs[j]?=some v):w.cell? ⟨g,j,none⟩=some v:=((h.blk i hi).cell j).trans hj
theorem Kn.aA(h:Kn b0 w0 w L R)(n:Nat):Kn b0 w0 w (L.take n) R:=by
 have key:∀(i:Nat) x,(L.take n)[i]?=some x→L[i]?=some x:=fun i x hx=>by
  rw[List.getElem?_take] at hx;split at hx
  ·exact hx
  ·cases hx
 exact⟨h.b,h.m,fun i x hx=>h.l i x (key i x hx),h.r,fun i j x y hx hy=>h.ll i j x y (key i x hx) (key j y hy),fun i j x y hx hy=>h.lr i j x y (key i x hx) hy,h.rr⟩
theorem Kn.ay(h:Kn b0 w0 w L R)(n:Nat):Kn b0 w0 w L (R.take n):=by
 have key:∀(i:Nat) x,(R.take n)[i]?=some x→R[i]?=some x:=fun i x hx=>by
  rw[List.getElem?_take] at hx;split at hx
  ·exact hx
  ·cases hx
 exact⟨h.b,h.m,h.l,fun i x hx=>h.r i x (key i x hx),h.ll,fun i j x y hx hy=>h.lr i j x y hx (key j y hy),fun i j x y hx hy=>h.rr i j x y (key i x hx) (key j y hy)⟩
theorem Kn.aI(h:Kn b0 w0 w L R)(n:Nat):Kn b0 w0 w (L.drop n) R:=by
 have key:∀(i:Nat) x,(L.drop n)[i]?=some x→L[n+i]?=some x:=fun i x hx=>by rw[List.getElem?_drop] at hx;exact hx
 exact⟨h.b,h.m,fun i x hx=>h.l _ x (key i x hx),h.r,fun i j x y hx hy hij=>h.ll _ _ x y (key i x hx) (key j y hy) (by omega),fun i j x y hx hy=>h.lr _ j x y (key i x hx) hy,h.rr⟩
theorem Kn.pick(h:Kn b0 w0 w L R)(f g:Nat→Nat){L2:List (Nat×TypeId×Array Value)}{R2:List dA}(hf:∀i j,i<L2.length→j<L2.length→i≠j→f i≠f j)(hg:∀i j,i<R2.length→j<R2.length→i≠j→g i≠g j)
  (hL:∀(i:Nat) x,L2[i]?=some x→L[f i]?=some x) (hR:∀(i:Nat) x,R2[i]?=some x→R[g i]?=some x):Kn b0 w0 w L2 R2:=
 ⟨h.b,h.m,fun i x hx=>h.l _ x (hL i x hx),fun i x hx=>h.r _ x (hR i x hx),fun i j x y hx hy hij=>h.ll _ _ x y (hL i x hx) (hL j y hy) (hf i j (List.getElem?_eq_some_iff.1 hx).1 (List.getElem?_eq_some_iff.1 hy).1 hij),fun i j x y hx hy=>h.lr _ _ x y (hL i x hx) (hR j y hy),fun i j x y hx hy hij=>h.rr _ _ x y (hR i x hx) (hR j y hy) (hg i j (List.getElem?_eq_some_iff.1 hx).1 (List.getElem?_eq_some_iff.1 hy).1 hij)⟩
theorem sj{α:Type}{l:List α}{i:Nat}{e:α}{j:Nat}{x:α}(h:(l.set i e)[j]?=some x):(j=i∧x=e)∨(j≠i∧l[j]?=some x):=by
 rw[List.getElem?_set] at h
 split at h
 ·rename_i hij
  subst hij
  split at h
  ·exact .inl ⟨rfl,by injection h with h;exact h.symm⟩
  ·cases h
 ·rename_i hij
  exact .inr ⟨fun e=>hij e.symm,h⟩
theorem Kn.aeX(h:Kn b0 w0 w L R){i g:Nat}{t:TypeId}{old cs:Array Value}(hi:L[i]?=some (g,t,old))(hb:Below b0 w w')(hsz:w'.heap.size=w.heap.size)(hk:gD w' g t cs)
  (hf:∀{g':Nat} {t':TypeId} {cs':Array Value},gD w g' t' cs'→g'≠g→gD w' g' t' cs'):Kn b0 w0 w' (L.set i (g,t,cs)) R:=by
 refine⟨h.b.trans hb,by rw[hsz];exact h.m,fun j x hx=>?_,fun j y hy=>?_,fun j k x y hx hy hjk=>?_,fun j k x y hx hy=>?_,h.rr⟩
 ·rcases sj hx with ⟨rfl,rfl⟩|⟨hne,hx⟩
  ·exact⟨(h.l _ _ hi).1,hk⟩
  ·exact⟨(h.l j x hx).1,hf (h.l j x hx).2 (h.ll j i x _ hx hi hne)⟩
 ·have ho:=h.r j y hy
  refine⟨ho.1,?_⟩
  rcases ho.2 with h0|⟨g',cap,cur,hv,hb',hg',hr⟩
  ·exact .inl h0
  ·refine .inr ⟨g',cap,cur,hv,hb',hf hg' (fun e=>h.lr i j _ y hi hy ?_),hr⟩
   rw[hv,e];rfl
 ·rcases sj hx with ⟨rfl,rfl⟩|⟨hne,hx1⟩<;>rcases sj hy with ⟨rfl,rfl⟩|⟨hne',hy1⟩
  ·omega
  ·exact fun e=>h.ll j k _ y hi hy1 hjk e
  ·exact fun e=>h.ll j k x _ hx1 hi hjk e
  ·exact h.ll j k x y hx1 hy1 hjk
 ·rcases sj hx with ⟨rfl,rfl⟩|⟨hne,hx1⟩
  ·exact fun e=>h.lr j k _ y hi hy e
  ·exact h.lr j k x y hx1 hy
theorem Kn.abG(h:Kn b0 w0 w L R){i:Nat}{e:TypeId}{k n n':Nat}{v v':Value}{xs xs':List Value}(hi:R[i]?=some (e,k,v,n,xs))(hown:w'.ownsRow b0 e k v' n' xs')(hg:w.grownBy w' v.ownBlock)
  (hal:v'.ownBlock=v.ownBlock∨v'.ownBlock=some w.heap.size):Kn b0 w0 w' L (R.set i (e,k,v',n',xs')):=by
 have hb:Below b0 w w':=(Below.refl b0 w).grown hg h.m (fun k hk=>(lK (h.r i _ hi) hk).1);have hf:∀{g':Nat} {t':TypeId} {cs':Array Value},gD w g' t' cs'→v.ownBlock≠some g'→gD w' g' t' cs':=fun hk hne=>(hg.block _ hk.lt (fun e=>hne e.symm)).trans hk
 have hnew:∀g,g<w.heap.size→v.ownBlock≠some g→v'.ownBlock≠some g:=fun g hlt hne e=>by
  rcases hal with h1|h1
  ·rw[h1] at e;exact hne e
  ·rw[h1] at e;injection e with e;omega
 refine⟨h.b.trans hb,Nat.le_trans h.m hb.size,fun j x hx=>⟨(h.l j x hx).1,hf (h.l j x hx).2 (h.lr j i x _ hx hi)⟩,fun j y hy=>?_,h.ll,fun j q x y hx hy=>?_,fun j q x y hx hy hjq=>?_⟩
 ·rcases sj hy with ⟨rfl,rfl⟩|⟨hne,hy⟩
  ·exact hown
  ·have ho:=h.r j y hy
   refine⟨ho.1,?_⟩
   rcases ho.2 with h0|⟨g',cap,cur,hv,hb',hg',hr⟩
   ·exact .inl h0
   ·exact .inr ⟨g',cap,cur,hv,hb',hf hg' (h.rr j i y _ hy hi hne g' (by rw[hv];rfl)),hr⟩
 ·rcases sj hy with ⟨rfl,rfl⟩|⟨hne,hy⟩
  ·exact hnew _ (h.l j x hx).2.lt (h.lr j q x _ hx hi)
  ·exact h.lr j q x y hx hy
 ·rcases sj hx with ⟨rfl,rfl⟩|⟨hne,hx1⟩<;>rcases sj hy with ⟨rfl,rfl⟩|⟨hne',hy1⟩
  ·omega
  ·exact fun g hg' e=>hnew g (lK (h.r q y hy1) e).2 (fun e'=>h.rr j q _ y hi hy1 hjq g e' e) hg'
  ·exact fun g hg' e=>hnew g (lK (h.r j x hx1) hg').2 (fun e'=>h.rr j q x _ hx1 hi hjq g hg' e') e
  ·exact h.rr j q x y hx1 hy1 hjq
end
def putCells(cs:Array Value):Nat→List Value→Array Value
 | _,[]=>cs
 | o,v::r=>putCells (cs.setIfInBounds o v) (o+1) r
theorem mH:∀(vs:List Value) (cs:Array Value) (o:Nat),o+vs.length≤cs.size→(putCells cs o vs).toList=cs.toList.take o++vs++cs.toList.drop (o+vs.length)
 | [],cs,o,_=>by simp[putCells]
 | v::r,cs,o,h=>by
  rw[List.length_cons] at h;have h1:o<cs.toList.length:=by rw[Array.length_toList];omega
  have ih:=mH r (cs.setIfInBounds o v) (o+1) (by rw[Array.size_setIfInBounds];omega);rw[Array.toList_setIfInBounds] at ih;rw[putCells,ih,List.drop_set_of_lt (by omega),List.take_add_one,List.getElem?_set_self h1,List.take_set_of_le (Nat.le_refl o),List.length_cons];simp;omega
theorem dJ{vs:List Value}{cs:Array Value}(h:cs.size=vs.length:=by rfl):putCells cs 0 vs=vs.toArray:=by
 have h1:=mH vs cs 0 (by omega);rw[List.take_zero,aJ,Nat.zero_add,List.drop_of_length_le (by rw[Array.length_toList];omega),List.append_nil] at h1;rw[← Array.toArray_toList (xs:=putCells cs 0 vs),h1]
theorem gD.cells{_w:World}{g:Nat}{t:TypeId}:∀(vs:List Value) (cs:Array Value) (o:Nat) (w:World),gD w g t cs→gD (w.setCells g o vs) g t (putCells cs o vs)
 | [],_,_,_,h=>h
 | v::r,_cs,o,w,h=>gD.cells (_w:=w) r _ (o+1) _ (h.abF o v)
theorem gD.DN{g g':Nat}{t:TypeId}{cs:Array Value}(hne:g≠g'):∀(vs:List Value) (o:Nat) (w:World),gD w g t cs→gD (w.setCells g' o vs) g t cs
 | [],_,_,h=>h
 | v::r,o,_w,h=>gD.DN hne r (o+1) _ (h.far (p:=⟨g',o,none⟩) hne v)
theorem oP{b g:Nat}(hb:b≤g):∀(vs:List Value) (o:Nat) (w:World),Below b w (w.setCells g o vs)∧(w.setCells g o vs).heap.size=w.heap.size
 | [],_,w=>⟨Below.refl b w,rfl⟩
 | v::r,o,w=>by
  obtain⟨h1,h2⟩:=oP hb r (o+1) (w.setCell ⟨g,o,none⟩ v);have h3:=(Below.refl b w).setCell (p:=⟨g,o,none⟩) hb v;refine⟨h3.trans h1,?_⟩
  show((w.setCell ⟨g,o,none⟩ v).setCells g (o+1) r).heap.size=_
  rw[h2];simp[World.setCell]
section
variable {P:Program}{b0:Nat}{w0 w:World}{L:List (Nat×TypeId×Array Value)}{R:List dA}{ops:Array Oper}{rest:List Oper}{o:Oper}{a:Act}{Q:Exit→Act→World→Prop}
theorem dU(HK:Hid (Kn b0 w0 w L R)){ty:TypeId}(x:Operand)(ho:o.op=.load ty x)(i:Nat){g off:Nat}{t:TypeId}{cs:Array Value}(hL:L[i]?=some (g,t,cs))(hx:a.eval x=.pointer (some ⟨g,off,none⟩))
  (vs:Array Value) (hv:∀j,j<vs.size→cs[off+j]?=vs[j]?) {fs:Array Field} (hu:P.underlying ty=some (.struct fs)) (hi:(P.info? ty).map (·.size)=some vs.size) :
  (execOp a.eval o).run P w=.ok (.value (.agg vs)) w:=by
 have hc:w.rangeAt g off vs.toList:=fun j v hj=>by
  exact ZN
 have h:=run_loadVar_mid (P:=P) w g off ty vs.toList _ hc hu rfl (by simpa using hi);exact Xf
theorem aV(HK:Hid (Kn b0 w0 w L R))(ty:TypeId)(x:Operand)(ho:o.op=.load ty x)(i:Nat){g off:Nat}{t:TypeId}{cs:Array Value}(hL:L[i]?=some (g,t,cs))(hx:a.eval x=.pointer (some ⟨g,off,none⟩))
  {v:Value}  {d:TypeDesc} (hu:P.underlying ty=some d)  (hv:cs[off]?=some v:=by rfl)(hd:d.isRow=false:=by rfl) :
  (execOp a.eval o).run P w=.ok (.value v) w:=by
 have hc:=HK.out.cell i hL off hv
 have hagg:(isAgg ty).run P w=.ok false w:=by
  unfold isAgg;rw[Sem.run_bind,run_underlying hu w];cases d<;>simp_all
 have h:(loadVar ty ⟨g,off,none⟩).run P w=.ok v w:=by
  simp[loadVar,Sem.run_bind,hagg,hc]
 exact Ry
theorem au{v:Value}(hr:(execOp a.eval o).run P w=.ok (.value v) w)(h:wpList P ops Q rest (a.put o.dst v) w)(hw:Region.wanted o (yielded ops a.tmps)=true:=by rfl):wpList P ops Q (o::rest) a w:=
 BigFrame.wpList_want hw fun _ hK=>by
  unfold Oper.wp;rw[hr,Oper.upon_value];exact hK _ _ h
theorem kM{K:Act→World→Prop}(HK:Hid (Kn b0 w0 w L R)){ty:TypeId}(x y:Operand)(ho:o.op=.store ty x y)(i:Nat){g off:Nat}{t:TypeId}{cs:Array Value}(hL:L[i]?=some (g,t,cs))(hx:a.eval x=.pointer (some ⟨g,off,none⟩))
  {vs:Array Value} (hy:a.eval y=.agg vs) (hsz:off+vs.size≤cs.size) (hi:(P.info? ty).map (·.size)=some vs.size) (h1:vs.all (·.oneCell')=true)
  (h:∀w',Hid (Kn b0 w0 w' (L.set i (g,t,putCells cs off vs.toList)) R)→Hid (w'.heap.size=w.heap.size)→K (a.put o.dst undef) w'):o.wp P a w K Q:=by
 have hb:=HK.out.blk i hL
 have ht:w.there g off vs.size:=fun j hj=>by
  rw[hb.cell];exact⟨by rw[Array.getElem?_eq_getElem (by omega)];rfl,hb.frozen _⟩
 obtain⟨b1,b2⟩:=oP (HK.out.l i _ hL).1 vs.toList off w;exact wp_store_mid ty x y ho g off vs hx hy ht hi h1 (h _ (zH (HK.out.aeX hL b1 b2 (gD.cells (_w:=w) _ _ _ _ hb) (fun hk hne=>gD.DN hne _ _ _ hk))) (zH b2))
theorem nP{K:Act→World→Prop}(HK:Hid (Kn b0 w0 w L R)){ty:TypeId}(x y:Operand)(ho:o.op=.store ty x y)(i:Nat){g off:Nat}{t:TypeId}{cs:Array Value}(hL:L[i]?=some (g,t,cs))(hx:a.eval x=.pointer (some ⟨g,off,none⟩))
  {v:Value} (hy:a.eval y=v)   (hsz:off<cs.size)
  (h:∀w',Hid (Kn b0 w0 w' (L.set i (g,t,cs.setIfInBounds off v)) R)→Hid (w'.heap.size=w.heap.size)→K (a.put o.dst undef) w') (hc:v.cells=#[v]:=by rfl)(h1:v.oneCell'=true:=by rfl)(hi:(P.info? ty).map (·.size)=some 1:=by kernel_rfl):o.wp P a w K Q:=by
 have hb:=HK.out.blk i hL;have hcell:∃u,w.cell? ⟨g,off,none⟩=some u:=⟨_,(hb.cell off).trans (Array.getElem?_eq_getElem hsz)⟩
 have hs:=run_storeCells_cells (P:=P) g off [v] 0 w (fun j hj=>by
   have:j=0:=by simpa using hj
   subst this
   rw[hb.cell,Array.getElem?_eq_getElem (by omega)];rfl) (fun j _=>hb.frozen _) (fun u hu=>by simp at hu;subst hu;exact h1)
 simp only[Nat.add_zero] at hs
 have hr:(storeVar ty ⟨g,off,none⟩ v).run P w=.ok () (w.setCell ⟨g,off,none⟩ v):=by
  cases hq:P.info? ty with
  | none=>simp[hq] at hi
  | some q=>
   have hs1:q.size=1:=by simpa [hq] using hi
   simp[storeVar,sizeOf,typeInfo,hq,hc,hs1,hs,World.setCells]
 have h3:(w.setCell ⟨g,off,none⟩ v).heap.size=w.heap.size:=by simp[World.setCell]
 unfold Oper.wp execOp;simp only[ho,hx,hy,Instr.storeAt,Instr.sureAddr,Sem.run_bind,Sem.run_pure,Result.andThen_ok,hr];exact h _ (zH (HK.out.aeX hL ((Below.refl b0 w).setCell (p:=⟨g,off,none⟩) (HK.out.l i _ hL).1 v) h3 (hb.abF off v) (fun hk hne=>hk.far (p:=⟨g,off,none⟩) hne v))) (zH h3)
theorem jJ(HK:Hid (Kn b0 w0 w L R))(i:Nat)(hgd:o.guard=none){ty:TypeId}(x y:Operand)(ho:o.op=.store ty x y){g off:Nat}{t:TypeId}{cs:Array Value}(hL:L[i]?=some (g,t,cs))(hx:a.eval x=.pointer (some ⟨g,off,none⟩))
  {vs:Array Value} (hy:a.eval y=.agg vs) (hsz:off+vs.size≤cs.size) (hi:(P.info? ty).map (·.size)=some vs.size)
  (h:∀w',Hid (Kn b0 w0 w' (L.set i (g,t,putCells cs off vs.toList)) R)→Hid (w'.heap.size=w.heap.size)→wpList P ops Q rest (a.put o.dst undef) w') (h1:vs.all (·.oneCell')=true:=by simp[Value.oneCell']):wpList P ops Q (o::rest) a w:=
 wpList_plain hgd fun _ hK=>kM HK (ty:=ty) x y ho i hL hx hy hsz hi h1 fun w' h2 h3=>hK _ _ (h w' h2 h3)
theorem pR(HK:Hid (Kn b0 w0 w L R))(i:Nat)(hgd:o.guard=none){ty:TypeId}(x y:Operand)(ho:o.op=.store ty x y){g off:Nat}{t:TypeId}{cs:Array Value}(hL:L[i]?=some (g,t,cs))(hx:a.eval x=.pointer (some ⟨g,off,none⟩))
  {v:Value} (hy:a.eval y=v)   (hsz:off<cs.size) (hi:(P.info? ty).map (·.size)=some 1)
  (h:∀w',Hid (Kn b0 w0 w' (L.set i (g,t,cs.setIfInBounds off v)) R)→Hid (w'.heap.size=w.heap.size)→wpList P ops Q rest (a.put o.dst undef) w') (hc:v.cells=#[v]:=by rfl)(h1:v.oneCell'=true:=by rfl):wpList P ops Q (o::rest) a w:=
 wpList_plain hgd fun _ hK=>nP HK (ty:=ty) x y ho i hL hx hy (hc:=hc) (h1:=h1) hsz (hi:=hi) fun w' h2 h3=>hK _ _ (h w' h2 h3)
theorem zu{K:Act→World→Prop}{E:Prop}(HK:Hid (Kn b0 w0 w L R))(i:Nat)(hgd:o.guard=none){ty:TypeId}(x y:Operand)(ho:o.op=.store ty x y){g off:Nat}{t:TypeId}{cs:Array Value}(hL:L[i]?=some (g,t,cs))(hx:a.eval x=.pointer (some ⟨g,off,none⟩))
  {vs:Array Value} (hy:a.eval y=.agg vs)  (hi:(P.info? ty).map (·.size)=some vs.size)
  (h:∀w',Hid (Kn b0 w0 w' (L.set i (g,t,putCells cs off vs.toList)) R)→Hid (w'.heap.size=w.heap.size)→K (a.put o.dst undef) w') (hsz:off+vs.size≤cs.size:=by show 6≤6;decide)(h1:vs.all (·.oneCell')=true:=by simp[Value.oneCell']):if Region.wanted o (yielded ops a.tmps)=true then Oper.wp P o a w K Q else E:=by
 rw[if_pos (by simp[Region.wanted,hgd])];exact kM HK (ty:=ty) x y ho i hL hx hy hsz hi h1 h
theorem He{K:Act→World→Prop}(HK:Hid (Kn b0 w0 w L R)){α:Type}(La:Lay P α)(j:Nat)(s x:Operand)(ho:o.op=.call { callee:=.builtin .append,args:=#[s,x],argTypes:=#[La.t,La.t] })
  {v:Value} {l:List α} (hR:R[j]?=some (row La v l)) (hs:a.eval s=v) (m:List α) {A:Option Addr} {n c B:Nat} (hx:a.eval x=.slice A n c) (hn:n=m.length) (hI:Hid (La.Reads w B A m∧(A=none→m=[])))
  (hl:Hid (l.length+m.length≤9223372036854775807∧(l.length+m.length)*La.bytes≤211106232532992))
  {N:Nat} (hN:Hid ((l++m).length=N)) (h:∀A' c' w',Hid (Kn b0 w0 w' L (R.set j (row La (.slice A' N c') (l++m))))→K (a.put o.dst (.slice A' N c')) w'):o.wp P a w K Q:=by
 obtain⟨i0,hi,hz0,hz1,hz2⟩:=info_parts La.info;obtain⟨hl1,hl2⟩:=hl.out;have hk:=HK.out;subst hn
 refine BX _ s x ho b0 i0 La.z La.k La.bytes La.und hi hz0 hz1 hz2 La.zs La.pos La.small v l.length (La.flat l) hs (hk.own j hR) m.length (La.flat m) hx (hI.out.1.src c hI.out.2)
  (by unfold maxLen;omega) hl2 hk.m ?_
 intro v' w' hown hgr hal;have hrow:row La v' (l++m)=(La.e,La.k,v',l.length+m.length,La.flat l++La.flat m):=by unfold row;rw[List.length_append,Lay.yQ]
 have hs:La.Own b0 w' v' (l++m):=by unfold Lay.Own;rw[List.length_append,Lay.yQ];exact hown
 obtain⟨A',c',rfl⟩:=hs.shape;rw[hN.out] at hrow hown hal ⊢;refine h A' c' w' (zH ?_);rw[hrow];exact hk.abG (i:=j) hR hown hgr hal
theorem aX(HK:Hid (Kn b0 w0 w L R)){α:Type}(La:Lay P α)(j:Nat){s:Operand}{x:Operand}
  {v:Value} {l:List α}   (m:List α) {A:Option Addr} {n c B:Nat}  (hn:n=m.length) (hI:Hid (La.Reads w B A m∧(A=none→m=[])))
  (hl:Hid (l.length+m.length≤9223372036854775807∧(l.length+m.length)*La.bytes≤211106232532992))
  {N:Nat} (hN:Hid ((l++m).length=N)) (h:∀A' c' w',Hid (Kn b0 w0 w' L (R.set j (row La (.slice A' N c') (l++m))))→wpList P ops Q rest (a.put o.dst (.slice A' N c')) w') (hgd:o.guard=none:=by rfl)(ho:o.op=.call { callee:=.builtin .append,args:=#[s,x],argTypes:=#[La.t,La.t] }:=by rfl)(hR:R[j]?=some (row La v l):=by rfl)(hs:a.eval s=v:=by rfl)(hx:a.eval x=.slice A n c:=by rfl):wpList P ops Q (o::rest) a w:=
 wpList_plain hgd fun _ hK=>He HK La j s x ho hR hs m hx hn hI hl hN fun A' c' w' h2=>hK _ _ (h A' c' w' h2)
end
theorem iK(w:World)(t:TypeId)(cs:Array Value):Hid (Kn w.heap.size w (w.alloc (.cells cs t)) [(w.heap.size,t,cs)] []):=zH ((Kn.start w).alloc t cs)
theorem kX(w:World)(t1:TypeId)(c1:Array Value)(t2:TypeId)(c2:Array Value):Hid (Kn w.heap.size w ((w.alloc (.cells c1 t1)).alloc (.cells c2 t2)) [(w.heap.size,t1,c1),(w.heap.size+1,t2,c2)] []):=by
 have h:=(iK w t1 c1).out.alloc t2 c2;rw[show(w.alloc (.cells c1 t1)).heap.size=w.heap.size+1 from by simp] at h;exact zH h
theorem AY(w:World)(t1:TypeId)(c1:Array Value)(t2:TypeId)(c2:Array Value)(t3:TypeId)(c3:Array Value):
  Hid (Kn w.heap.size w (((w.alloc (.cells c1 t1)).alloc (.cells c2 t2)).alloc (.cells c3 t3)) [(w.heap.size,t1,c1),(w.heap.size+1,t2,c2),(w.heap.size+2,t3,c3)] []):=by
 have h:=(kX w t1 c1 t2 c2).out.alloc t3 c3;rw[show((w.alloc (.cells c1 t1)).alloc (.cells c2 t2)).heap.size=w.heap.size+2 from by simp] at h;exact zH h
theorem Cg(w:World)(t1:TypeId)(c1:Array Value)(t2:TypeId)(c2:Array Value)(t3:TypeId)(c3:Array Value)(t4:TypeId)(c4:Array Value):
  Hid (Kn w.heap.size w ((((w.alloc (.cells c1 t1)).alloc (.cells c2 t2)).alloc (.cells c3 t3)).alloc (.cells c4 t4)) [(w.heap.size,t1,c1),(w.heap.size+1,t2,c2),(w.heap.size+2,t3,c3),(w.heap.size+3,t4,c4)] []):=by
 have h:=(AY w t1 c1 t2 c2 t3 c3).out.alloc t4 c4;rw[show(((w.alloc (.cells c1 t1)).alloc (.cells c2 t2)).alloc (.cells c3 t3)).heap.size=w.heap.size+3 from by simp] at h;exact zH h
section
variable {P:Program}{ops:Array Oper}{Q:Exit→Act→World→Prop}{b0:Nat}{w0:World}{L L':List (Nat×TypeId×Array Value)}{R R':List dA}
theorem zR{id:Nat}{a:Act}{w:World}(h0:Kn b0 w0 w.drew L R)(h:Hid (Kn b0 w0 w.drew L' R')→wpAnyH P .any ops Q (fun W=>Hid (Kn b0 w0 W L' R')) ops.size (Array.replicate ops.size false) a w.drew)(hL:L=L':=by((try simp only[List.take_succ_cons,List.take_zero,List.drop_succ_cons,List.drop_zero,List.take_nil,List.drop_nil]);exact rfl))(hR:R=R':=by((try simp only[List.take_succ_cons,List.take_zero,List.drop_succ_cons,List.drop_zero,List.take_nil,List.drop_nil]);exact rfl))(hm:P.follows .mixedOrders=true:=by kernel_rfl):(Code.region id ops true).wp P Q a w:=by
 subst hL hR;exact wp_region_held_drew (S:=fun W=>Hid (Kn b0 w0 W L R)) hm (Lib.hid h0) h
theorem cb{f:FuncId}{args:Array Value}{w:World}{E:Ending}{Z:Ending→World→Prop}(X:Calls P f args w fun e w'=>e=E∧Below w.heap.size w w')(HK:Hid (Kn b0 w0 w L R))(h:∀w1,Hid (Kn b0 w0 w1 L R)→Z E w1):Calls P f args w Z:=X.mono fun e w1 g=>by
 obtain⟨rfl,b⟩:=g;exact h w1 (Lib.hid (HK.out.call b))
end
end
end Go.Proofs.YtieoeendnccafaaGreat
