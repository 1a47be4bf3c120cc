/- Blocks that are known whole: what a load and a store of a whole block do, at a list of operations, where a region draws its order, under a guard; No condition but those named. -/
import Derived.Test.YtddpmlcpfmmbeaaGreatTk
import Derived.Deep.AppendSrc
import Derived.Deep.AppendLies
import Derived.OwnWalk
import Derived.Below
import Derived.WalkKit
import Derived.Deep.Draws
import Derived.Lib.Hide
import Derived.Deep.Onto
import Derived.SizedLaws
import Derived.Deep.CondSized
import Derived.Carry
import Derived.ChangeOld
import Derived.ProofKit
import Derived.OpenShut
import Derived.ShutString
import Derived.WalkSpells
import Derived.WalkLawsBesides
import Derived.Handy
import Derived.BigFrame
import Derived.Deep.MidRow
set_option linter.unusedSimpArgs false
set_option linter.unusedVariables false
set_option maxRecDepth 100000
set_option maxHeartbeats 25600000
namespace Go.Proofs.YtddpmlcpfmmbeaaGreat
section
open Go.RowKit
theorem nextcap_le{need old:Nat}(h:old<need):Builtin.nextslicecap need old≤need+need / 4+512:=by
 unfold Builtin.nextslicecap
 split
 ·omega
 ·split
  ·omega
  ·rw[growBy_four]
   repeat' split
   all_goals omega
theorem grow_fits{need old bytes:Nat}(h:old<need)(hs:bytes≤65536)(hb:need*bytes≤211106232532992):Builtin.nextslicecap need old*bytes≤281474976710656:=by
 have h1:Builtin.nextslicecap need old*bytes≤(need+need / 4+512)*bytes:=Nat.mul_le_mul_right _ (nextcap_le h)
 have h2:need / 4*bytes≤need*bytes / 4:=by
  rw[Nat.le_div_iff_mul_le (by decide),Nat.mul_right_comm]
  exact Nat.mul_le_mul_right _ (Nat.div_mul_le_self need 4)
 rw[Nat.add_mul,Nat.add_mul] at h1
 omega
section
variable {P:Program}(w:World)
theorem run_append_src(base:Nat)(t tx ty e:TypeId)(i:TypeInfo)(z:Value)(size bytes:Nat)(ht:P.underlying t=some (.slice e))(hi:P.info? e=some i)(hz:i.zero=some z)
  (hsize:i.size=size) (hby:i.bytes=bytes) (hzs:z.cells.size=size) (hsz:0<size) (hbs:bytes≤65536)
  (v:Value) (n:Nat) (xs:List Value) (hown:w.ownsRow base e size v n xs) (x:Value) (m:Nat) (news:List Value) (hs:Src P size tx x m news w)
  (h63:n+m≤maxLen) (hbytes:(n+m)*bytes≤211106232532992) (hbase:base≤w.heap.size) :
  ∃v' w',(Builtin.append_ #[t,tx] ty #[v,x]).run P w=.ok v' w'∧w'.ownsRow base e size v' (n+m) (xs++news)∧w.grownBy w' v.ownBlock∧
   (v'.ownBlock=v.ownBlock∨v'.ownBlock=some w.heap.size):=by
 subst hsize
 subst hby
 have hsmall:n+m≤9223372036854775807:=by simp only[maxLen] at h63;omega
 have hl:=hs.newsLen
 have hlen:(xs++news).length=(n+m)*i.size:=by rw[List.length_append,hown.1,hl,Nat.add_mul]
 have grown:∀(old:Nat),old<n+m→∀(row:Option Nat),
   (w.drew.alloc (.cells ((xs++news).toArray++Builtin.zeroCells z.cells (grownCap w (n+m) old e-(n+m))) e)).ownsRow base e i.size
    (.slice (some ⟨w.heap.size,0,none⟩) (n+m) (grownCap w (n+m) old e)) (n+m) (xs++news)∧
   w.grownBy (w.drew.alloc (.cells ((xs++news).toArray++Builtin.zeroCells z.cells (grownCap w (n+m) old e-(n+m))) e)) row:=by
  intro old ho row
  have hge:=grownCap_ge w (n+m) old e
  have hcm:grownCap w (n+m) old e≤maxLen:=grownCap_le_maxLen w (n+m) old e h63
  refine⟨⟨hlen,.inr ⟨w.heap.size,_,_,rfl,hbase,heap_alloc_new w.drew _,hge,hcm,?_,?_⟩⟩,⟨rfl,rfl,rfl,by simp,fun k hk _=>Below.heap_alloc w.drew _ k hk⟩⟩
  ·simp only[Array.size_append,List.size_toArray,size_zeroCells,hzs,hlen,← Nat.add_mul]
   congr 1
   omega
  ·rw[Array.toList_append,List.toList_toArray,← hlen]
   exact List.take_left
 rcases hown.2 with ⟨rfl,rfl⟩|⟨g,cap,cur,rfl,hbg,hg,hnc,hcm,hcs,htake⟩
 ·have hx:xs=[]:=List.eq_nil_of_length_eq_zero (by simpa using hown.1)
  subst hx
  by_cases hm:m=0
  ·subst hm
   have hn:news=[]:=List.eq_nil_of_length_eq_zero (by simpa using hl)
   subst hn
   refine⟨.slice none 0 0,w,?_,World.ownsRow_nil w base e i.size,⟨rfl,rfl,rfl,Nat.le_refl _,fun _ _ _=>rfl⟩,.inl rfl⟩
   rcases hs.kind with ⟨e',hk⟩|hk<;>simp[Builtin.append_,run_underlying ht,run_underlying hk,sizeOf,typeInfo,hi,hs.len,hs.cells]
  ·have hr:=run_append_grow_src (P:=P) w t tx ty e i z ht hi hz none 0 0 [] (by simp[Builtin.firstCells]) x m news hs (by omega) (by omega) (grow_fits (by omega) hbs hbytes)
   have hgr:=grown 0 (by omega) (Value.ownBlock (.slice none 0 0))
   exact⟨_,_,hr,hgr.1,hgr.2,.inr rfl⟩
 ·by_cases hroom:n+m≤cap
  ·have hfit:n*i.size+news.length≤cur.size:=by rw[hl,hcs,← Nat.add_mul];exact Nat.mul_le_mul_right _ hroom
   have hst:=run_storeCells_at P g (n*i.size) e news 0 cur w hg (by simpa using hfit) hs.one
   simp only[Nat.add_zero] at hst
   have hr:(Builtin.append_ #[t,tx] ty #[.slice (some ⟨g,0,none⟩) n cap,x]).run P w =
     .ok (.slice (some ⟨g,0,none⟩) (n+m) cap) (w.setRow g (cur.toList.take (n*i.size)++news++cur.toList.drop (n*i.size+news.length)).toArray):=by
    rcases hs.kind with ⟨e',hk⟩|hk<;>simp[Builtin.append_,run_underlying ht,run_underlying hk,sizeOf,typeInfo,hi,hs.len,hroom,hs.cells,Addr.add_lit,hst]
   refine⟨_,_,hr,⟨hlen,.inr ⟨g,cap,_,rfl,hbg,setRow_heap w g cur _ e _ hg,hroom,hcm,?_,?_⟩⟩,⟨rfl,rfl,rfl,by simp,fun k _ hk=>setRow_other w g k _ (fun e=>hk (by simp[Value.ownBlock,e]))⟩,.inl rfl⟩
   ·simp only[List.size_toArray,List.length_append,List.length_take,List.length_drop,Array.length_toList]
    omega
   ·rw[htake,← hlen]
    exact List.take_left
  ·have holds:∀j u,xs[j]?=some u→w.cell? ((⟨g,0,none⟩:Addr).add j)=some u:=hown.cells (g:=g) rfl
   have hold:=run_firstCells_some (P:=P) w.drew i.size n ⟨g,0,none⟩ n cap xs hown.1 (by simpa using holds)
   have hr:=run_append_grow_src (P:=P) w t tx ty e i z ht hi hz (some ⟨g,0,none⟩) n cap xs hold x m news hs (by omega) (by omega) (grow_fits (by omega) hbs hbytes)
   have hgr:=grown cap (by omega) (Value.ownBlock (.slice (some ⟨g,0,none⟩) n cap))
   exact⟨_,_,hr,hgr.1,hgr.2,.inr rfl⟩
theorem wp_append_src{o:Oper}{a:Act}{K:Act→World→Prop}{Q:Exit→Act→World→Prop}(s x:Operand)(t tx:TypeId)
  (ho:o.op=.call { callee:=.builtin .append,args:=#[s,x],argTypes:=#[t,tx] })
  (base:Nat) (e:TypeId) (i:TypeInfo) (z:Value) (size bytes:Nat) (ht:P.underlying t=some (.slice e)) (hi:P.info? e=some i) (hz:i.zero=some z)
  (hsize:i.size=size) (hby:i.bytes=bytes) (hzs:z.cells.size=size) (hsz:0<size) (hbs:bytes≤65536)
  (v:Value) (n:Nat) (xs:List Value) (hs:a.eval s=v) (hown:w.ownsRow base e size v n xs)
  (m:Nat) (news:List Value) (xv:Value) (hx:a.eval x=xv) (hsrc:Src P size tx xv m news w)
  (h63:n+m≤maxLen) (hbytes:(n+m)*bytes≤211106232532992) (hbase:base≤w.heap.size)
  (h:∀v' w',w'.ownsRow base e size v' (n+m) (xs++news)→w.grownBy w' v.ownBlock→(v'.ownBlock=v.ownBlock∨v'.ownBlock=some w.heap.size)→K (a.put o.dst v') w'):o.wp P a w K Q:=by
 obtain⟨v',w',hr,h2,h3,h4⟩:=run_append_src (P:=P) w base t tx o.type e i z size bytes ht hi hz hsize hby hzs hsz hbs v n xs hown xv m news hsrc h63 hbytes hbase
 unfold Oper.wp execOp
 simp only[ho,resolve,invoke,builtin,Sem.run_bind,Sem.run_pure,Result.andThen_ok,List.map_toArray,List.map_cons,List.map_nil,hs,hx,hr]
 exact h v' w' h2 h3 h4
end
def Others(t:TypeId)(w w':World):Prop:=∀(g:Nat) (cs:Array Value) (t':TypeId) (fr:Nat×Nat),t'≠t→w.heap[g]?=some (Obj.cells cs t' fr)→w'.heap[g]?=some (Obj.cells cs t' fr)
structure Turns(base:Nat)(t:TypeId)(w w':World):Prop where
 below:Below base w w'
 others:Others t w w'
section
variable {base:Nat}{t:TypeId}{w w1 w2:World}
theorem Turns.refl(base:Nat)(t:TypeId)(w:World):Turns base t w w:=⟨Below.refl _ _,fun _ _ _ _ _ h=>h⟩
theorem Turns.trans(h:Turns base t w w1)(k:Turns base t w1 w2):Turns base t w w2:=⟨h.below.trans k.below,fun g cs t' fr hn hg=>k.others g cs t' fr hn (h.others g cs t' fr hn hg)⟩
theorem Turns.alloc(h:Turns base t w w1)(hb:base≤w1.heap.size)(o:Obj):Turns base t w (w1.alloc o):=
 ⟨h.below.alloc hb o,fun g cs t' fr hn hg=>by
  have h1:=h.others g cs t' fr hn hg
  rw[Below.heap_alloc w1 o g (Array.getElem?_eq_some_iff.1 h1).1];exact h1⟩
theorem Turns.drew(h:Turns base t w w1):Turns base t w w1.drew:=⟨h.below.drew,h.others⟩
theorem Turns.drewN(h:Turns base t w w1)(n:Nat):Turns base t w (w1.drewN n):=⟨h.below.trans ⟨rfl,rfl,rfl,Nat.le_refl _,fun _ _=>rfl⟩,h.others⟩
theorem Turns.grown(h:Turns base t w w1){v:Value}{n size:Nat}{xs:List Value}(hb:base≤w1.heap.size)(hown:w1.ownsRow base t size v n xs)(hg:w1.grownBy w2 v.ownBlock):Turns base t w w2:=by
 refine⟨h.below.grown hg hb (fun k hk=>(hown.lt k hk).1),fun g cs t' fr hn hx=>?_⟩
 have h1:=h.others g cs t' fr hn hx
 have hlt:=(Array.getElem?_eq_some_iff.1 h1).1
 rw[hg.block g hlt (fun e=>?_)]
 ·exact h1
 ·rcases hown.2 with ⟨rfl,_⟩|⟨g',cap,cur,rfl,_,hgg,_⟩
  ·simp[Value.ownBlock] at e
  ·simp[Value.ownBlock] at e
   subst e
   rw[hgg] at h1
   injection h1 with h1
   injection h1 with _ h2 _
   exact hn h2.symm
theorem Turns.cell(h:Turns base t w w1){g:Nat}{cs:Array Value}{t':TypeId}{fr:Nat×Nat}(hn:t'≠t)(hg:w.heap[g]?=some (.cells cs t' fr))(i:Nat):w1.cell? ⟨g,i,none⟩=cs[i]?:=
 cell_of_row w1 g i cs t' fr (h.others g cs t' fr hn hg)
theorem Turns.size(h:Turns base t w w1):w.heap.size≤w1.heap.size:=h.below.size
theorem Turns.mono{base':Nat}(h:Turns base t w w1)(hb:base'≤base):Turns base' t w w1:=⟨h.below.mono hb,h.others⟩
end
end
section
open Go.RowKit
structure Lay(P:Program)(α:Type) where
 t:TypeId
 e:TypeId
 k:Nat
 bytes:Nat
 z:Value
 f:α→List Value
 len:∀x,(f x).length=k
 one:∀x,∀u∈f x,u.oneCell'=true
 und:P.underlying t=some (.slice e)
 info:(P.info? e).map (fun i=>(i.zero,i.size,i.bytes))=some (some z,k,bytes)
 zs:z.cells.size=k
 pos:0<k
 small:bytes≤65536
namespace Lay
theorem add_at(b o j:Nat):(⟨b,o,none⟩:Addr).add j=⟨b,o+j,none⟩:=by
 unfold Addr.add
 split
 ·rename_i h;subst h;rfl
 ·rfl
theorem get_of{α:Type}{l:List α}{k:Nat}(h:k<l.length):∃x,l[k]?=some x:=⟨_,List.getElem?_eq_getElem h⟩
theorem take_succ{α:Type}{l:List α}{k:Nat}{x:α}(h:l[k]?=some x):l.take (k+1)=l.take k++[x]:=by
 rw[List.take_add_one,h];rfl
section
variable {P:Program}{α:Type}(L:Lay P α)
def flat(l:List α):List Value:=l.flatMap L.f
theorem flat_cons(x:α)(l:List α):L.flat (x::l)=L.f x++L.flat l:=rfl
theorem flat_append(a b:List α):L.flat (a++b)=L.flat a++L.flat b:=List.flatMap_append ..
theorem flat_length(l:List α):(L.flat l).length=l.length*L.k:=by
 induction l with
 | nil=>simp[flat]
 | cons x l ih=>rw[flat_cons,List.length_append,L.len,ih,List.length_cons,Nat.succ_mul,Nat.add_comm]
theorem flat_get:∀(l:List α) (i:Nat) (x:α),l[i]?=some x→∀j u,(L.f x)[j]?=some u→(L.flat l)[i*L.k+j]?=some u
 | y::l,0,x,h,j,u,hu=>by
  simp at h;subst h
  have hj:=(List.getElem?_eq_some_iff.1 hu).1
  rw[flat_cons,Nat.zero_mul,Nat.zero_add,List.getElem?_append_left hj]
  exact hu
 | y::l,i+1,x,h,j,u,hu=>by
  rw[List.getElem?_cons_succ] at h
  have ih:=flat_get l i x h j u hu
  have h1:=L.len y
  have h2:(i+1)*L.k=i*L.k+L.k:=Nat.succ_mul i L.k
  rw[flat_cons,List.getElem?_append_right (by rw[h1];omega),h1,show(i+1)*L.k+j-L.k=i*L.k+j from by omega]
  exact ih
theorem flat_of:∀(l:List α) (j:Nat) (u:Value),(L.flat l)[j]?=some u→∃i x q,l[i]?=some x∧(L.f x)[q]?=some u∧j=i*L.k+q
 | [],j,u,h=>by simp[flat] at h
 | y::l,j,u,h=>by
  rw[flat_cons] at h
  have h1:=L.len y
  rcases Nat.lt_or_ge j L.k with hj|hj
  ·rw[List.getElem?_append_left (by rw[h1];exact hj)] at h
   exact⟨0,y,j,rfl,h,by omega⟩
  ·rw[List.getElem?_append_right (by rw[h1];exact hj),h1] at h
   obtain⟨i,x,q,hx,hq,e⟩:=flat_of l _ u h
   refine⟨i+1,x,q,by rw[List.getElem?_cons_succ];exact hx,hq,?_⟩
   have h2:(i+1)*L.k=i*L.k+L.k:=Nat.succ_mul i L.k
   omega
theorem flat_one(l:List α):∀u∈L.flat l,u.oneCell'=true:=fun u hu=>by
 obtain⟨x,_,hx⟩:=List.mem_flatMap.1 hu
 exact L.one x u hx
def At(w:World)(b o i:Nat)(x:α):Prop:=∀j u,(L.f x)[j]?=some u→w.cell? ⟨b,o+i*L.k+j,none⟩=some u
def Reads(w:World)(B:Nat)(A:Option Addr)(l:List α):Prop:=
 0<l.length→∃b o,A=some ⟨b,o,none⟩∧b<B∧∀i x,l[i]?=some x→L.At w b o i x
def Own(base:Nat)(w:World)(v:Value)(l:List α):Prop:=w.ownsRow base L.e L.k v l.length (L.flat l)
end
section
variable {P:Program}{α:Type}{L:Lay P α}{w w':World}{B B' b o base:Nat}{A:Option Addr}{l:List α}{v:Value}
theorem At.keep{i:Nat}{x:α}(h:L.At w b o i x)(hk:∀p:Addr,p.block=b→w'.cell? p=w.cell? p):L.At w' b o i x:=fun j u hu=>by
 rw[hk _ rfl];exact h j u hu
theorem Reads.keep(h:L.Reads w B A l)(hk:∀p:Addr,p.block<B→w'.cell? p=w.cell? p):L.Reads w' B A l:=fun hn=>by
 obtain⟨b,o,hA,hb,hc⟩:=h hn
 exact⟨b,o,hA,hb,fun i x hx=>(hc i x hx).keep fun p hp=>hk p (by omega)⟩
theorem Reads.below(h:L.Reads w B A l)(hb:Below B w w'):L.Reads w' B A l:=h.keep fun _ hp=>hb.cell hp
theorem Reads.more(h:L.Reads w B A l)(hb:B≤B'):L.Reads w B' A l:=fun hn=>by
 obtain⟨b,o,hA,hb',hc⟩:=h hn
 exact⟨b,o,hA,by omega,hc⟩
theorem Reads.later(h:L.Reads w B A l)(hb:Below B w w')(hB:B≤w.heap.size):L.Reads w' w'.heap.size A l:=(h.below hb).more (Nat.le_trans hB hb.size)
theorem Reads.drewN(h:L.Reads w B A l)(n:Nat):L.Reads (w.drewN n) B A l:=h
theorem Reads.nil(w:World)(B:Nat)(A:Option Addr):L.Reads w B A []:=fun h=>absurd h (by simp)
theorem Reads.take(h:L.Reads w B A l)(q:Nat):L.Reads w B A (l.take q):=fun hn=>by
 obtain⟨b,o,hA,hb,hc⟩:=h (by rw[List.length_take] at hn;omega)
 refine⟨b,o,hA,hb,fun i x hx=>?_⟩
 rw[List.getElem?_take] at hx
 split at hx
 ·exact hc i x hx
 ·cases hx
theorem Reads.drop(h:L.Reads w B (some ⟨b,o,none⟩) l)(q:Nat):L.Reads w B (some ⟨b,o+q*L.k,none⟩) (l.drop q):=fun hn=>by
 obtain⟨b',o',hA,hb,hc⟩:=h (by rw[List.length_drop] at hn;omega)
 injection hA with hA
 injection hA with h1 h2
 subst h1 h2
 refine⟨b,o+q*L.k,rfl,hb,fun i x hx j u hu=>?_⟩
 rw[List.getElem?_drop] at hx
 have h1:=hc _ x hx j u hu
 rw[Nat.add_mul] at h1
 rw[show o+q*L.k+i*L.k+j=o+(q*L.k+i*L.k)+j from by omega]
 exact h1
theorem Reads.block(h:L.Reads w B (some ⟨b,o,none⟩) l)(hn:0<l.length):b<B∧∀i x,l[i]?=some x→L.At w b o i x:=by
 obtain⟨b',o',hA,hb,hc⟩:=h hn
 injection hA with hA
 injection hA with h1 h2
 subst h1 h2
 exact⟨hb,hc⟩
theorem Own.shape(h:L.Own base w v l):∃A c,v=.slice A l.length c:=by
 rcases h.2 with ⟨rfl,h0⟩|⟨g,cap,cur,rfl,_⟩
 ·exact⟨none,0,by rw[h0]⟩
 ·exact⟨_,_,rfl⟩
theorem Own.alloc(h:L.Own base w v l)(o:Obj):L.Own base (w.alloc o) v l:=World.ownsRow.alloc h o
theorem Own.drew(h:L.Own base w v l):L.Own base w.drew v l:=h
theorem Own.drewN(h:L.Own base w v l)(n:Nat):L.Own base (w.drewN n) v l:=h
theorem Own.below(h:L.Own base w v l)(b:Below w.heap.size w w'):L.Own base w' v l:=by
 refine⟨h.1,?_⟩
 rcases h.2 with h0|⟨g,cap,cur,hv,hb,hg,hr⟩
 ·exact .inl h0
 ·exact .inr ⟨g,cap,cur,hv,hb,by rw[b.block g (Array.getElem?_eq_some_iff.1 hg).1];exact hg,hr⟩
theorem Own.mono(h:L.Own base w v l){base':Nat}(hb:base'≤base):L.Own base' w v l:=World.ownsRow.mono h hb
theorem Own.turned(h:L.Own base w v l){t:TypeId}(hne:L.e≠t){w0:Nat}(b:Turns w0 t w w'):L.Own base w' v l:=by
 refine⟨h.1,?_⟩
 rcases h.2 with h0|⟨g,cap,cur,hv,hb,hg,hr⟩
 ·exact .inl h0
 ·exact .inr ⟨g,cap,cur,hv,hb,b.others g _ _ _ hne hg,hr⟩
theorem Own.reads{n c:Nat}(h:L.Own base w (.slice A n c) l):n=l.length∧L.Reads w w.heap.size A l:=by
 have hc:=fun g=>World.ownsRow.cells h (g:=g)
 rcases h.2 with ⟨h1,h0⟩|⟨g,cap,cur,h1,_,hg,_⟩
 ·injection h1 with h1 h2 h3
  subst h1 h2 h3
  exact⟨h0.symm,fun hp=>absurd hp (by omega)⟩
 ·injection h1 with h1 h2 h3
  subst h1 h2 h3
  refine⟨rfl,fun _=>⟨g,0,rfl,(Array.getElem?_eq_some_iff.1 hg).1,fun i x hx j u hu=>?_⟩⟩
  have h3:=hc g rfl _ _ (L.flat_get l i x hx j u hu)
  rw[add_at] at h3
  rw[Nat.zero_add] at h3 ⊢
  exact h3
theorem Own.block(h:L.Own base w v l)(hl:l≠[]):∃g c,v=.slice (some ⟨g,0,none⟩) l.length c∧l.length≤c∧base≤g∧g<w.heap.size∧∀i x,l[i]?=some x→L.At w g 0 i x:=by
 have h0:0<l.length:=List.length_pos_iff.2 hl
 have h2:=h.2
 obtain⟨A,c,hv⟩:=h.shape
 subst hv
 obtain⟨_,hi⟩:=h.reads
 rcases h2 with ⟨h1,h3⟩|⟨g,cap,cur,h1,hb0,hg,hnc,_⟩
 ·omega
 ·injection h1 with e1 e2 e3
  subst e1 e3
  obtain⟨b,o,e,hb,hc⟩:=hi h0
  injection e with e
  injection e with e1 e2
  subst e1 e2
  exact⟨g,_,rfl,hnc,hb0,hb,hc⟩
theorem Own.cap{n c:Nat}(h:L.Own base w (.slice A n c) l):l.length≤c:=by
 rcases h.2 with ⟨h1,h3⟩|⟨g,cap,cur,h1,hb0,hg,hnc,_⟩
 ·omega
 ·injection h1 with e1 e2 e3
  subst e3
  exact hnc
theorem Own.none(w:World)(base:Nat):L.Own base w (.slice none 0 0) []:=World.ownsRow_nil w base L.e L.k
theorem Own.new(w:World)(l:List α)(C:Array Value)(g n c:Nat)(hC:C=(L.flat l).toArray)(hb:base≤w.heap.size)(hg:g=w.heap.size)(hn:n=l.length)(hc:c=l.length)(hl:l.length≤65536):
  L.Own base (w.alloc (.cells C L.e)) (.slice (some ⟨g,0,Option.none⟩) n c) l:=by
 subst hC hg hn hc
 refine⟨L.flat_length l,.inr ⟨w.heap.size,l.length,_,rfl,hb,heap_alloc_new w _,Nat.le_refl _,by unfold maxLen;omega,?_,?_⟩⟩
 ·simp[L.flat_length]
 ·exact List.take_of_length_le (by simp[L.flat_length])
theorem Reads.src(c:Nat)(h:L.Reads w B A l)(hA:A=none→l=[]):Src P L.k L.t (.slice A l.length c) l.length (L.flat l) w:=by
 match A,h,hA with
 | none,_,hA=>
  obtain rfl:=hA rfl
  exact Src.ofNil w L.und c
 | some a,h,_=>
  refine Src.ofSlice w L.und a l.length c (L.flat l) (L.flat_length l) (fun j u hu=>?_) (L.flat_one l)
  obtain⟨i,x,q,h1,h2,h3⟩:=L.flat_of l j u hu
  have hj:i<l.length:=(List.getElem?_eq_some_iff.1 h1).1
  obtain⟨b,o,ha,_,hc⟩:=h (by omega)
  injection ha with ha
  subst ha
  rw[add_at,h3,← Nat.add_assoc]
  exact hc i x h1 q u h2
theorem Reads.new(L:Lay P α)(w:World)(ys:List α)(C:Array Value)(hC:C=(L.flat ys).toArray):L.Reads (w.alloc (.cells C L.e)) (w.alloc (.cells C L.e)).heap.size (some ⟨w.heap.size,0,none⟩) ys:=fun _=>by
 subst hC
 refine⟨w.heap.size,0,rfl,by simp,fun i x hx j u hu=>?_⟩
 rw[Nat.zero_add,World.cell?_alloc_new]
 simpa using L.flat_get ys i x hx j u hu
end
end Lay
end
namespace Lift
open Go.ChangeShapes Go.WideShapes Go.ChangeAt Go.RowKit
section
variable {H:Type}{enc:TypeId×Value→H}{P:Program}
def Fits(s:ChangeSpec)(n:Nat):Prop:=
 ∀(H:Type) (ds:List (DataW H)),ds.length=n→s.fn H ds = { results:=[.lit (.bool true)],args:=ds }
theorem trodAll_below(hl:laidOutB P=true){W W':World}(hb:Below W.heap.size W W'):
  ∀(ts:List TypeId),(ts.all fun t=>P.readableRec t&&decide (t<P.types.size))=true→∀(vs:List Value) (ds:List (DataW H)) (ps:List MemPlace),
   DataW.TrodAll enc P W 0 (fun _=>true) true ts vs ds ps→DataW.TrodAll enc P W' 0 (fun b=>decide (b<W.heap.size)) true ts vs ds ps
 | [],_,vs,ds,ps,h=>by
  obtain⟨rfl,rfl,rfl⟩:=trodAll_nil h
  exact rfl
 | t::ts,ha,vs,ds,ps,h=>by
  obtain⟨v,vs',d,ds',p,q,rfl,rfl,rfl,h0,hr⟩:=trodAll_cons h
  simp only[List.all_cons,Bool.and_eq_true,decide_eq_true_eq] at ha
  have lt:∀x∈p,x.block<W.heap.size:=by obtain⟨m,hm⟩:=h0;exact DataW.trod_lt m _ _ _ hm
  exact trodAll_cons_mk (Below.trod hl ha.1.1 ha.1.2 h0 hb lt) (trodAll_below hl hb ts (by simpa using ha.2) _ _ _ hr)
theorem trodAll_length{W:World}:∀(ts:List TypeId) (vs:List Value) (ds:List (DataW H)) (ps:List MemPlace),
  DataW.TrodAll enc P W 0 (fun _=>true) true ts vs ds ps→ds.length=ts.length
 | [],vs,ds,ps,h=>by obtain⟨rfl,rfl,rfl⟩:=trodAll_nil h;rfl
 | t::ts,vs,ds,ps,h=>by
  obtain⟨v,vs',d,ds',p,q,rfl,rfl,rfl,h0,hr⟩:=trodAll_cons h
  simp[trodAll_length ts _ _ _ hr]
theorem post_law{fn:Func}{s:ChangeSpec}(hl:laidOutB P=true)(hf:Fits s fn.params.size)(hv:s.vars=[]){tb:TypeId}(hres:fn.resultTypes=#[tb])(hb:P.underlying tb=some .bool)
  (hread:(fn.params.toList.all fun t=>P.readableRec t&&decide (t<P.types.size))=true)
  {W W':World} {args:Array Value} {ds gs:List (DataW H)} {before:List MemPlace} (hW:DataW.Whole enc P fn.params.toList s.vars false W args.toList ds gs before) (bel:Below W.heap.size W W') :
  s.post enc P fn false true false false W args (.bool true) W':=by
 have hW':=hW
 obtain⟨p,q,hA,hV,rfl,hfz,hnd⟩:=hW
 have hV':DataW.TrodVars enc P W (fun _=>true) [] gs q:=by rw[← hv];exact hV
 obtain⟨rfl,rfl⟩:=trodVars_none hV'
 have hn:ds.length=fn.params.size:=by simpa using trodAll_length _ _ _ _ hA
 have hs:s.fn H (ds++[]) = { results:=[.lit (.bool true)],args:=ds }:=by rw[List.append_nil];exact hf H ds hn
 refine⟨ds,[],p++[],[],p,[],hW',?_,?_,?_,bel.frame _,fun h=>by cases h⟩
 ·rw[hs,hres]
  exact trodAll_mk1 (shut_bool hb _)
 ·rw[hs]
  exact trodAll_below hl bel _ hread _ _ _ hA
 ·rw[hs,hv]
  exact rfl
end
def Given{H:Type}(enc:TypeId×Value→H)(P:Program)(ts:List TypeId)(W:World)(base:Nat)(args:List Value)(ds:List (DataW H))(before:List MemPlace):Prop:=
 DataW.TrodAll enc P W 0 (fun _=>true) true ts args ds before∧
 (∀(j:Nat) t v,ts[j]?=some t→args[j]?=some v→Value.okWide P W .any base t v)∧
 W.noneFrozen before∧(DataW.weightsEach P ts ds).all (·≤reachBytes)=true
def Yes(P:Program)(f:FuncId)(args:Array Value)(W:World):Prop:=
 Calls P f args W fun e W'=>e=.returned (.bool true)∧Below W.heap.size W W'
theorem law{C:Checked}{os:Os}{f:FuncId}{fn:Func}{s:ChangeSpec}{conds:List PathCond}{H:Type}{enc:TypeId×Value→H}
  (own:ownKnob C.prog.godebug=none) (started:os.Started) (noInit:C.prog.inits.idxOf? f=none) (hfn:C.prog.funcs[f]?=some fn)
  (hl:laidOutB C.prog=true) (hf:Fits s fn.params.size) (hv:s.vars=[]) {tb:TypeId} (hres:fn.resultTypes=#[tb]) (hb:C.prog.underlying tb=some .bool)
  (hread:(fn.params.toList.all fun t=>C.prog.readableRec t&&decide (t<C.prog.types.size))=true)
  (witness:∃(w:World) (tape:Tape) (i:Input),w.os=os∧(w.forCall tape i).Shaped C.prog∧i.vars=[]∧Input.okWide C.prog (w.forCall tape i) .any w.heap.size f i∧
   s.pre6 enc C.prog fn conds false (w.forCall tape i).memory i.args∧({}:Assume).holds C.prog (lone (Frame.enter C.prog f i.args .normal) [] (w.forCall tape i)))
  (contract:∀(W:World) (base:Nat) (args:Array Value) (ds:List (DataW H)) (before:List MemPlace),
   Given enc C.prog fn.params.toList W base args.toList ds before→Yes C.prog f args W) :
  ReturnsInHanded {} C os f .any (s.pre6 enc C.prog fn conds false) (s.post enc C.prog fn false true false false):=by
 refine returnsInHanded_of_change_sized own started noInit hfn witness ?_
 intro W base args ds gs before hval hW _ hsz _
 have hW':=hW
 obtain⟨p,q,hA,hV,rfl,hfz,hnd⟩:=hW
 have hV':DataW.TrodVars enc C.prog W (fun _=>true) [] gs q:=by rw[← hv];exact hV
 obtain⟨rfl,rfl⟩:=trodVars_none hV'
 have hpv:s.plain.varTypes C.prog=[]:=by
  unfold ChangeSpec.plain
  rw[hv]
  rfl
 rw[hpv,List.append_nil,List.append_nil] at hsz
 rw[List.append_nil] at hfz
 refine(contract W base args ds p ⟨hA,fun j t v ht hv=>hval j t v (by simpa using ht) (by simpa using hv),hfz,hsz⟩).mono fun e W' ⟨he,bel⟩=>?_
 exact⟨_,he,post_law hl hf hv hres hb hread hW' bel⟩
section
variable {H:Type}{enc:TypeId×Value→H}{P:Program}{W:World}{base:Nat}
theorem Given.cons{t:TypeId}{ts:List TypeId}{args:List Value}{ds:List (DataW H)}{before:List MemPlace}(h:Given enc P (t::ts) W base args ds before):
  ∃v vs d ds' p q,args=v::vs∧ds=d::ds'∧before=p++q∧DataW.Trod enc P W 0 (fun _=>true) true t v d p∧Value.okWide P W .any base t v∧W.noneFrozen p∧
   (d.weights P t).all (·≤reachBytes)=true∧Given enc P ts W base vs ds' q:=by
 obtain⟨h1,h2,h3,h4⟩:=h
 obtain⟨v,vs,d,ds',p,q,rfl,rfl,rfl,h0,hr⟩:=trodAll_cons h1
 simp only[DataW.weightsEach,List.all_append,Bool.and_eq_true] at h4
 exact⟨v,vs,d,ds',p,q,rfl,rfl,rfl,h0,h2 0 t v rfl rfl,fun b o hm=>h3 b o (List.mem_append_left _ hm),h4.1,
  hr,fun j t' v' ht hv=>h2 (j+1) t' v' ht hv,fun b o hm=>h3 b o (List.mem_append_right _ hm),h4.2⟩
theorem Given.nil{args:List Value}{ds:List (DataW H)}{before:List MemPlace}(h:Given enc P [] W base args ds before):args=[]∧ds=[]:=by
 obtain⟨rfl,rfl,_⟩:=trodAll_nil h.1
 exact⟨rfl,rfl⟩
theorem Given.int{t:TypeId}{ts:List TypeId}{k:IntKind}{args:List Value}{ds:List (DataW H)}{before:List MemPlace}(ht:P.underlying t=some (.int k))(h:Given enc P (t::ts) W base args ds before):
  ∃(n:Int) (vs:List Value) (ds':List (DataW H)) (q:List MemPlace),args=.int k n::vs∧ds=.lit (.int k n)::ds'∧(Lit.int k n).wf=true∧Given enc P ts W base vs ds' q:=by
 obtain⟨v,vs,d,ds',p,q,rfl,rfl,rfl,h0,hok,_,_,hg⟩:=h.cons
 obtain⟨n,rfl,rfl,rfl,hwf⟩:=open_int ht hok h0
 exact⟨n,vs,ds',q,rfl,rfl,hwf,hg⟩
theorem Given.bool{t:TypeId}{ts:List TypeId}{args:List Value}{ds:List (DataW H)}{before:List MemPlace}(ht:P.underlying t=some .bool)(h:Given enc P (t::ts) W base args ds before):
  ∃(b:Bool) (vs:List Value) (ds':List (DataW H)) (q:List MemPlace),args=.bool b::vs∧ds=.lit (.bool b)::ds'∧Given enc P ts W base vs ds' q:=by
 obtain⟨v,vs,d,ds',p,q,rfl,rfl,rfl,h0,hok,_,_,hg⟩:=h.cons
 obtain⟨b,rfl,rfl,rfl⟩:=open_bool ht hok h0
 exact⟨b,vs,ds',q,rfl,rfl,hg⟩
end
theorem fits1{s:ChangeSpec}(h:∀(H:Type) (a:DataW H),s.fn H [a] = { results:=[.lit (.bool true)],args:=[a] }):Fits s 1
 | H,[a],_=>h H a
theorem fits2{s:ChangeSpec}(h:∀(H:Type) (a b:DataW H),s.fn H [a,b] = { results:=[.lit (.bool true)],args:=[a,b] }):Fits s 2
 | H,[a,b],_=>h H a b
theorem fits3{s:ChangeSpec}(h:∀(H:Type) (a b c:DataW H),s.fn H [a,b,c] = { results:=[.lit (.bool true)],args:=[a,b,c] }):Fits s 3
 | H,[a,b,c],_=>h H a b c
theorem args_of{args:Array Value}{l:List Value}(h:args.toList=l):args=l.toArray:=by cases args;simp_all
end Lift
section
open Go.RowKit
def Blk(w:World)(g:Nat)(t:TypeId)(cs:Array Value):Prop:=w.heap[g]?=some (.cells cs t (0,0))
section
variable {w w':World}{g:Nat}{t:TypeId}{cs:Array Value}
theorem Blk.lt(h:Blk w g t cs):g<w.heap.size:=(Array.getElem?_eq_some_iff.1 h).1
theorem Blk.cell(h:Blk w g t cs)(i:Nat):w.cell? ⟨g,i,none⟩=cs[i]?:=cell_of_row w g i cs t (0,0) h
theorem Blk.frozen(h:Blk w g t cs)(i:Nat):w.frozen? ⟨g,i,none⟩=false:=by
 unfold Blk at h
 simp[World.frozen?,h]
theorem Blk.new(w:World)(t:TypeId)(cs:Array Value):Blk (w.alloc (.cells cs t)) w.heap.size t cs:=heap_alloc_new w _
theorem Blk.drewN(h:Blk w g t cs)(n:Nat):Blk (w.drewN n) g t cs:=h
theorem Blk.alloc(h:Blk w g t cs)(o:Obj):Blk (w.alloc o) g t cs:=(Below.heap_alloc w o g h.lt).trans h
theorem Blk.set_(h:Blk w g t cs)(i:Nat)(u:Value):Blk (w.setCell ⟨g,i,none⟩ u) g t (cs.setIfInBounds i u):=by
 unfold Blk at h ⊢
 simp[World.setCell,Array.getElem?_modify,h]
theorem Blk.far(h:Blk w g t cs){p:Addr}(hp:g≠p.block)(u:Value):Blk (w.setCell p u) g t cs:=(Below.heap_setCell w p u g hp).trans h
theorem Blk.below{B:Nat}(h:Blk w g t cs)(hb:Below B w w')(hg:g<B):Blk w' g t cs:=(hb.block g hg).trans h
theorem Blk.turned{t':TypeId}{w0:Nat}(h:Blk w g t cs)(b:Turns w0 t' w w')(hne:t≠t'):Blk w' g t cs:=b.others g cs t (0,0) hne h
theorem Blk.row(h:Blk w g t cs){g':Nat}(hne:g≠g')(cs':Array Value):Blk (w.setRow g' cs') g t cs:=(setRow_other w g' g cs' hne).trans h
theorem turns_cell(h:Blk w g t cs){base:Nat}(hb:base≤g)(i:Nat)(u:Value):Turns base t w (w.setCell ⟨g,i,none⟩ u):=by
 refine⟨(Below.refl base w).setCell (p:=⟨g,i,none⟩) hb u,fun k cs2 t' fr hn hk=>?_⟩
 rw[Below.heap_setCell w ⟨g,i,none⟩ u k ?_]
 ·exact hk
 ·rintro rfl
  unfold Blk at h
  rw[h] at hk
  injection hk with hk
  injection hk with _ h2 _
  exact hn h2.symm
end
section
variable {P:Program}{ops:Array Oper}{rest:List Oper}{o:Oper}{a:Act}{w:World}{Q:Exit→Act→World→Prop}
structure Stored(base g:Nat)(t:TypeId)(cs:Array Value)(w w':World):Prop where
 turns:Turns base t w w'
 blk:Blk w' g t cs
 far:∀{g':Nat} {t':TypeId} {cs':Array Value},Blk w g' t' cs'→g'≠g→Blk w' g' t' cs'
 size:w'.heap.size=w.heap.size
end
theorem Blk.hb{w w':World}{g:Nat}{t:TypeId}{cs:Array Value}(h:Hid (Blk w g t cs))(hb:Below w.heap.size w w'):Hid (Blk w' g t cs):=zH (h.out.below hb h.out.lt)
theorem Blk.one{w:World}{g:Nat}{t:TypeId}{cs:Array Value}(h:Hid (Blk w g t cs))(i:Nat){v:Value}(hv:cs[i]?=some v):w.cell? ⟨g,i,none⟩=some v∧w.frozen? ⟨g,i,none⟩=false:=
 ⟨(h.out.cell i).trans hv,h.out.frozen i⟩
theorem Lay.Own.cell{P:Program}{α:Type}{L:Lay P α}{w:World}{base g:Nat}{t:TypeId}{cs:Array Value}{v:Value}{l:List α}(h:L.Own base w v l)(hb:Blk w g t cs)(hne:L.e≠t)(i:Nat)(u:Value):L.Own base (w.setCell ⟨g,i,Option.none⟩ u) v l:=
 h.turned hne (turns_cell hb (Nat.zero_le _) i u)
theorem Lay.Own.far{P:Program}{α:Type}{L:Lay P α}{w w':World}{base b g:Nat}{t:TypeId}{cs:Array Value}{v:Value}{l:List α}(h:L.Own base w v l)(hs:Stored b g t cs w w')(hg:g<base):L.Own base w' v l:=by
 refine⟨h.1,?_⟩
 rcases h.2 with h0|⟨g',cap,cur,hv,hb,hg',hr⟩
 ·exact .inl h0
 ·exact .inr ⟨g',cap,cur,hv,hb,hs.far hg' (by omega),hr⟩
def Apart(u v:Value):Prop:=∀k,u.ownBlock=some k→v.ownBlock≠some k
theorem Apart.symm{u v:Value}(h:Apart u v):Apart v u:=fun k hk h'=>h k h' hk
structure Grew{P:Program}{α:Type}(L:Lay P α)(base:Nat)(w:World)(v:Value)(w':World)(v':Value)(l:List α):Prop where
 own:L.Own base w' v' l
 far:∀{g:Nat} {t:TypeId} {cs:Array Value},Blk w g t cs→v.ownBlock≠some g→Blk w' g t cs
 blk:v'.ownBlock=v.ownBlock∨∃j,v'.ownBlock=some j∧w.heap.size≤j
 below:Below base w w'
section
variable {P:Program}{α β:Type}{L:Lay P α}{M:Lay P β}{base b2:Nat}{w w':World}{v v' u:Value}{l:List α}{lu:List β}
theorem Grew.row(h:Grew L base w v w' v' l)(hu:M.Own b2 w u lu)(ha:Apart u v):M.Own b2 w' u lu:=by
 refine⟨hu.1,?_⟩
 rcases hu.2 with h0|⟨g',cap,cur,hv,hb,hg',hr⟩
 ·exact .inl h0
 ·exact .inr ⟨g',cap,cur,hv,hb,h.far hg' (ha g' (by rw[hv];rfl)),hr⟩
theorem Grew.size(h:Grew L base w v w' v' l):w.heap.size≤w'.heap.size:=h.below.size
end
end
end Go.Proofs.YtddpmlcpfmmbeaaGreat
