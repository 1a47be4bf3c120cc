/- An argument that is a slice of things of one kind: what the form says of it, whatever they are. No condition but those named. -/
import Derived.Test.YtahdlddbbnjloaaGreatNAD
set_option linter.unusedSimpArgs false
set_option linter.unusedVariables false
set_option maxRecDepth 100000
set_option maxHeartbeats 25600000
open Go.RowKit
namespace Go.Proofs.YtahdlddbbnjloaaGreat
section
structure Lay(P:Program)(α:Type) where
 t:TypeId
 e:TypeId
 k:Nat
 bytes:Nat
 z:Value
 f:α→List Value
 len:∀x,(f x).length=k
 one:∀x,∀u∈f x,u.oneCell'=true
 und:P.underlying t=some (.slice e)
 info:(P.info? e).map (fun i=>(i.zero,i.size,i.bytes))=some (some z,k,bytes)
 zs:z.cells.size=k
 pos:0<k
 small:bytes≤65536
namespace Lay
theorem nS(b o j:Nat):(⟨b,o,none⟩:Addr).add j=⟨b,o+j,none⟩:=by
 unfold Addr.add
 split
 ·rename_i h;subst h;rfl
 ·rfl
theorem dW{α:Type}{l:List α}{k:Nat}(h:k<l.length):∃x,l[k]?=some x:=⟨_,List.getElem?_eq_getElem h⟩
theorem take_succ{α:Type}{l:List α}{k:Nat}{x:α}(h:l[k]?=some x):l.take (k+1)=l.take k++[x]:=by
 rw[List.take_add_one,h];rfl
section
variable {P:Program}{α:Type}(L:Lay P α)
def flat(l:List α):List Value:=l.flatMap L.f
theorem gI(x:α)(l:List α):L.flat (x::l)=L.f x++L.flat l:=rfl
theorem yN(a b:List α):L.flat (a++b)=L.flat a++L.flat b:=List.flatMap_append ..
theorem ig(l:List α):(L.flat l).length=l.length*L.k:=by
 induction l with
 | nil=>simp[flat]
 | cons x l ih=>rw[gI,List.length_append,L.len,ih,List.length_cons,Nat.succ_mul,Nat.add_comm]
theorem flat_get:∀(l:List α) (i:Nat) (x:α),l[i]?=some x→∀j u,(L.f x)[j]?=some u→(L.flat l)[i*L.k+j]?=some u
 | y::l,0,x,h,j,u,hu=>by
  simp at h;subst h;have hj:=(List.getElem?_eq_some_iff.1 hu).1;rw[gI,Nat.zero_mul,Nat.zero_add,List.getElem?_append_left hj];exact hu
 | y::l,i+1,x,h,j,u,hu=>by
  rw[List.getElem?_cons_succ] at h;have ih:=flat_get l i x h j u hu;have h1:=L.len y;have h2:(i+1)*L.k=i*L.k+L.k:=Nat.succ_mul i L.k;rw[gI,List.getElem?_append_right (by rw[h1];omega),h1,show(i+1)*L.k+j-L.k=i*L.k+j from by omega];exact ih
theorem Ou:∀(l:List α) (j:Nat) (u:Value),(L.flat l)[j]?=some u→∃i x q,l[i]?=some x∧(L.f x)[q]?=some u∧j=i*L.k+q
 | [],j,u,h=>by simp[flat] at h
 | y::l,j,u,h=>by
  rw[gI] at h;have h1:=L.len y
  rcases Nat.lt_or_ge j L.k with hj|hj
  ·rw[List.getElem?_append_left (by rw[h1];exact hj)] at h
   exact⟨0,y,j,rfl,h,by omega⟩
  ·rw[List.getElem?_append_right (by rw[h1];exact hj),h1] at h
   obtain⟨i,x,q,hx,hq,e⟩:=Ou l _ u h;refine⟨i+1,x,q,by rw[List.getElem?_cons_succ];exact hx,hq,?_⟩;have h2:(i+1)*L.k=i*L.k+L.k:=Nat.succ_mul i L.k;omega
theorem Iu(l:List α):∀u∈L.flat l,u.oneCell'=true:=fun u hu=>by
 obtain⟨x,_,hx⟩:=List.mem_flatMap.1 hu;exact L.one x u hx
def At(w:World)(b o i:Nat)(x:α):Prop:=∀j u,(L.f x)[j]?=some u→w.cell? ⟨b,o+i*L.k+j,none⟩=some u
def Reads(w:World)(B:Nat)(A:Option Addr)(l:List α):Prop:=
 0<l.length→∃b o,A=some ⟨b,o,none⟩∧b<B∧∀i x,l[i]?=some x→L.At w b o i x
def Own(base:Nat)(w:World)(v:Value)(l:List α):Prop:=w.ownsRow base L.e L.k v l.length (L.flat l)
end
section
variable {P:Program}{α:Type}{L:Lay P α}{w w':World}{B B' b o base:Nat}{A:Option Addr}{l:List α}{v:Value}
theorem At.keep{i:Nat}{x:α}(h:L.At w b o i x)(hk:∀p:Addr,p.block=b→w'.cell? p=w.cell? p):L.At w' b o i x:=fun j u hu=>by
 rw[hk _ rfl];exact h j u hu
theorem Reads.keep(h:L.Reads w B A l)(hk:∀p:Addr,p.block<B→w'.cell? p=w.cell? p):L.Reads w' B A l:=fun hn=>by
 exact acN
theorem Reads.below(h:L.Reads w B A l)(hb:Below B w w'):L.Reads w' B A l:=h.keep fun _ hp=>hb.cell hp
theorem Reads.more(h:L.Reads w B A l)(hb:B≤B'):L.Reads w B' A l:=fun hn=>by
 obtain⟨b,o,hA,hb',hc⟩:=h hn;exact⟨b,o,hA,by omega,hc⟩
theorem Reads.later(h:L.Reads w B A l)(hb:Below B w w')(hB:B≤w.heap.size):L.Reads w' w'.heap.size A l:=(h.below hb).more (Nat.le_trans hB hb.size)
theorem Reads.drewN(h:L.Reads w B A l)(n:Nat):L.Reads (w.drewN n) B A l:=h
theorem Reads.nil(w:World)(B:Nat)(A:Option Addr):L.Reads w B A []:=fun h=>absurd h (by simp)
theorem Reads.take(h:L.Reads w B A l)(q:Nat):L.Reads w B A (l.take q):=fun hn=>by
 obtain⟨b,o,hA,hb,hc⟩:=h (by rw[List.length_take] at hn;omega);refine⟨b,o,hA,hb,fun i x hx=>?_⟩;rw[List.getElem?_take] at hx
 split at hx
 ·exact hc i x hx
 ·cases hx
theorem Reads.drop(h:L.Reads w B (some ⟨b,o,none⟩) l)(q:Nat):L.Reads w B (some ⟨b,o+q*L.k,none⟩) (l.drop q):=fun hn=>by
 obtain⟨b',o',hA,hb,hc⟩:=h (by rw[List.length_drop] at hn;omega);injection hA with hA;injection hA with h1 h2;subst h1 h2;refine⟨b,o+q*L.k,rfl,hb,fun i x hx j u hu=>?_⟩;rw[List.getElem?_drop] at hx;have h1:=hc _ x hx j u hu;rw[Nat.add_mul] at h1;rw[show o+q*L.k+i*L.k+j=o+(q*L.k+i*L.k)+j from by omega];exact h1
theorem Reads.block(h:L.Reads w B (some ⟨b,o,none⟩) l)(hn:0<l.length):b<B∧∀i x,l[i]?=some x→L.At w b o i x:=by
 obtain⟨b',o',hA,hb,hc⟩:=h hn;injection hA with hA;injection hA with h1 h2;subst h1 h2;exact⟨hb,hc⟩
theorem Own.shape(h:L.Own base w v l):∃A c,v=.slice A l.length c:=by
 rcases h.2 with ⟨rfl,h0⟩|⟨g,cap,cur,rfl,_⟩
 ·exact⟨none,0,by rw[h0]⟩
 ·exact⟨_,_,rfl⟩
theorem Own.alloc(h:L.Own base w v l)(o:Obj):L.Own base (w.alloc o) v l:=World.ownsRow.alloc h o
theorem Own.drew(h:L.Own base w v l):L.Own base w.drew v l:=h
theorem Own.drewN(h:L.Own base w v l)(n:Nat):L.Own base (w.drewN n) v l:=h
theorem Own.below(h:L.Own base w v l)(b:Below w.heap.size w w'):L.Own base w' v l:=by
 refine⟨h.1,?_⟩
 rcases h.2 with h0|⟨g,cap,cur,hv,hb,hg,hr⟩
 ·exact .inl h0
 ·exact .inr ⟨g,cap,cur,hv,hb,by rw[b.block g (Array.getElem?_eq_some_iff.1 hg).1];exact hg,hr⟩
theorem Own.mono(h:L.Own base w v l){base':Nat}(hb:base'≤base):L.Own base' w v l:=World.ownsRow.mono h hb
theorem Own.turned(h:L.Own base w v l){t:TypeId}(hne:L.e≠t){w0:Nat}(b:Turns w0 t w w'):L.Own base w' v l:=by
 refine⟨h.1,?_⟩
 rcases h.2 with h0|⟨g,cap,cur,hv,hb,hg,hr⟩
 ·exact .inl h0
 ·exact .inr ⟨g,cap,cur,hv,hb,b.others g _ _ _ hne hg,hr⟩
theorem Own.reads{n c:Nat}(h:L.Own base w (.slice A n c) l):n=l.length∧L.Reads w w.heap.size A l:=by
 have hc:=fun g=>World.ownsRow.cells h (g:=g)
 rcases h.2 with ⟨h1,h0⟩|⟨g,cap,cur,h1,_,hg,_⟩
 ·injection h1 with h1 h2 h3
  subst h1 h2 h3;exact⟨h0.symm,fun hp=>absurd hp (by omega)⟩
 ·injection h1 with h1 h2 h3
  subst h1 h2 h3;refine⟨rfl,fun _=>⟨g,0,rfl,(Array.getElem?_eq_some_iff.1 hg).1,fun i x hx j u hu=>?_⟩⟩;have h3:=hc g rfl _ _ (L.flat_get l i x hx j u hu);rw[nS] at h3;rw[Nat.zero_add] at h3 ⊢;exact h3
theorem Own.block(h:L.Own base w v l)(hl:l≠[]):∃g c,v=.slice (some ⟨g,0,none⟩) l.length c∧l.length≤c∧base≤g∧g<w.heap.size∧∀i x,l[i]?=some x→L.At w g 0 i x:=by
 have h0:0<l.length:=List.length_pos_iff.2 hl;have h2:=h.2;obtain⟨A,c,hv⟩:=h.shape;subst hv;obtain⟨_,hi⟩:=h.reads
 rcases h2 with ⟨h1,h3⟩|⟨g,cap,cur,h1,hb0,hg,hnc,_⟩
 ·omega
 ·injection h1 with e1 e2 e3
  subst e1 e3;obtain⟨b,o,e,hb,hc⟩:=hi h0;injection e with e;injection e with e1 e2;subst e1 e2;exact⟨g,_,rfl,hnc,hb0,hb,hc⟩
theorem Own.cap{n c:Nat}(h:L.Own base w (.slice A n c) l):l.length≤c:=by
 rcases h.2 with ⟨h1,h3⟩|⟨g,cap,cur,h1,hb0,hg,hnc,_⟩
 ·omega
 ·injection h1 with e1 e2 e3
  subst e3;exact hnc
theorem Own.none(w:World)(base:Nat):L.Own base w (.slice none 0 0) []:=World.ownsRow_nil w base L.e L.k
theorem Own.new(w:World)(l:List α)(C:Array Value)(g n c:Nat)(hC:C=(L.flat l).toArray)(hb:base≤w.heap.size)(hg:g=w.heap.size)(hn:n=l.length)(hc:c=l.length)(hl:l.length≤65536):
  L.Own base (w.alloc (.cells C L.e)) (.slice (some ⟨g,0,Option.none⟩) n c) l:=by
 subst hC hg hn hc;refine⟨L.ig l,.inr ⟨w.heap.size,l.length,_,rfl,hb,heap_alloc_new w _,Nat.le_refl _,by unfold maxLen;omega,?_,?_⟩⟩
 ·simp[L.ig]
 ·exact List.take_of_length_le (by simp[L.ig])
theorem Reads.src(c:Nat)(h:L.Reads w B A l)(hA:A=none→l=[]):Src P L.k L.t (.slice A l.length c) l.length (L.flat l) w:=by
 match A,h,hA with
 | none,_,hA=>
  obtain rfl:=hA rfl;exact Src.ofNil w L.und c
 | some a,h,_=>
  refine Src.ofSlice w L.und a l.length c (L.flat l) (L.ig l) (fun j u hu=>?_) (L.Iu l);obtain⟨i,x,q,h1,h2,h3⟩:=L.Ou l j u hu;have hj:i<l.length:=(List.getElem?_eq_some_iff.1 h1).1;obtain⟨b,o,ha,_,hc⟩:=h (by omega);injection ha with ha;subst ha;rw[nS,h3,← Nat.add_assoc];exact hc i x h1 q u h2
theorem Zf(L:Lay P α)(w:World)(ys:List α)(C:Array Value)(hC:C=(L.flat ys).toArray)(c n g:Nat)(hg:g=w.heap.size)(hn:n=ys.length):Src P L.k L.t (.slice (some ⟨g,0,none⟩) n c) n (L.flat ys) (w.alloc (.cells C L.e)):=by
 subst hC hn hg;refine Src.ofSlice _ L.und _ _ _ _ (L.ig ys) (fun j u hu=>?_) (L.Iu ys);rw[nS,World.cell?_alloc_new]
 simpa using hu
theorem Reads.new(L:Lay P α)(w:World)(ys:List α)(C:Array Value)(hC:C=(L.flat ys).toArray):L.Reads (w.alloc (.cells C L.e)) (w.alloc (.cells C L.e)).heap.size (some ⟨w.heap.size,0,none⟩) ys:=fun _=>by
 subst hC;refine⟨w.heap.size,0,rfl,by simp,fun i x hx j u hu=>?_⟩;rw[Nat.zero_add,World.cell?_alloc_new]
 simpa using L.flat_get ys i x hx j u hu
end
end Lay
end
namespace Lift
open Go.ChangeShapes Go.WideShapes Go.ChangeAt Go.RowKit
section
variable {H:Type}{enc:TypeId×Value→H}{P:Program}
def Fits(s:ChangeSpec)(n:Nat):Prop:=
 ∀(H:Type) (ds:List (DataW H)),ds.length=n→s.fn H ds = { results:=[.lit (.bool true)],args:=ds }
theorem uy(hl:laidOutB P=true){W W':World}(hb:Below W.heap.size W W'):
  ∀(ts:List TypeId),(ts.all fun t=>P.readableRec t&&decide (t<P.types.size))=true→∀(vs:List Value) (ds:List (DataW H)) (ps:List MemPlace),
   DataW.TrodAll enc P W 0 (fun _=>true) true ts vs ds ps→DataW.TrodAll enc P W' 0 (fun b=>decide (b<W.heap.size)) true ts vs ds ps
 | [],_,vs,ds,ps,h=>by
  obtain⟨rfl,rfl,rfl⟩:=trodAll_nil h;exact rfl
 | t::ts,ha,vs,ds,ps,h=>by
  obtain⟨v,vs',d,ds',p,q,rfl,rfl,rfl,h0,hr⟩:=trodAll_cons h;simp only[List.all_cons,Bool.and_eq_true,decide_eq_true_eq] at ha;have lt:∀x∈p,x.block<W.heap.size:=by obtain⟨m,hm⟩:=h0;exact DataW.trod_lt m _ _ _ hm
  exact trodAll_cons_mk (Below.trod hl ha.1.1 ha.1.2 h0 hb lt) (uy hl hb ts (by simpa using ha.2) _ _ _ hr)
theorem trodAll_length{W:World}:∀(ts:List TypeId) (vs:List Value) (ds:List (DataW H)) (ps:List MemPlace),
  DataW.TrodAll enc P W 0 (fun _=>true) true ts vs ds ps→ds.length=ts.length
 | [],vs,ds,ps,h=>by obtain⟨rfl,rfl,rfl⟩:=trodAll_nil h;rfl
 | t::ts,vs,ds,ps,h=>by
  obtain⟨v,vs',d,ds',p,q,rfl,rfl,rfl,h0,hr⟩:=trodAll_cons h;simp[trodAll_length ts _ _ _ hr]
theorem UK{fn:Func}{s:ChangeSpec}(hl:laidOutB P=true)(hf:Fits s fn.params.size)(hv:s.vars=[]){tb:TypeId}(hres:fn.resultTypes=#[tb])(hb:P.underlying tb=some .bool)
  (hread:(fn.params.toList.all fun t=>P.readableRec t&&decide (t<P.types.size))=true)
  {W W':World} {args:Array Value} {ds gs:List (DataW H)} {before:List MemPlace} (hW:DataW.Whole enc P fn.params.toList s.vars false W args.toList ds gs before) (bel:Below W.heap.size W W') :
  s.post enc P fn false true false false W args (.bool true) W':=by
 have hW':=hW;obtain⟨p,q,hA,hV,rfl,hfz,hnd⟩:=hW;have hV':DataW.TrodVars enc P W (fun _=>true) [] gs q:=by rw[← hv];exact hV
 obtain⟨rfl,rfl⟩:=trodVars_none hV';have hn:ds.length=fn.params.size:=by simpa using trodAll_length _ _ _ _ hA
 have hs:s.fn H (ds++[]) = { results:=[.lit (.bool true)],args:=ds }:=by rw[List.append_nil];exact hf H ds hn
 refine⟨ds,[],p++[],[],p,[],hW',?_,?_,?_,bel.frame _,fun h=>by cases h⟩
 ·rw[hs,hres]
  exact trodAll_mk1 (shut_bool hb _)
 ·rw[hs]
  exact uy hl bel _ hread _ _ _ hA
 ·rw[hs,hv]
  exact rfl
end
def Given{H:Type}(enc:TypeId×Value→H)(P:Program)(ts:List TypeId)(W:World)(base:Nat)(args:List Value)(ds:List (DataW H))(before:List MemPlace):Prop:=
 DataW.TrodAll enc P W 0 (fun _=>true) true ts args ds before∧
 (∀(j:Nat) t v,ts[j]?=some t→args[j]?=some v→Value.okWide P W .any base t v)∧
 W.noneFrozen before∧(DataW.weightsEach P ts ds).all (·≤reachBytes)=true
def Yes(P:Program)(f:FuncId)(args:Array Value)(W:World):Prop:=
 Calls P f args W fun e W'=>e=.returned (.bool true)∧Below W.heap.size W W'
theorem law{C:Checked}{os:Os}{f:FuncId}{fn:Func}{s:ChangeSpec}{conds:List PathCond}{H:Type}{enc:TypeId×Value→H}
  (own:ownKnob C.prog.godebug=none) (started:os.Started) (noInit:C.prog.inits.idxOf? f=none) (hfn:C.prog.funcs[f]?=some fn)
  (hl:laidOutB C.prog=true) (hf:Fits s fn.params.size) (hv:s.vars=[]) {tb:TypeId} (hres:fn.resultTypes=#[tb]) (hb:C.prog.underlying tb=some .bool)
  (hread:(fn.params.toList.all fun t=>C.prog.readableRec t&&decide (t<C.prog.types.size))=true)
  (witness:∃(w:World) (tape:Tape) (i:Input),w.os=os∧(w.forCall tape i).Shaped C.prog∧i.vars=[]∧Input.okWide C.prog (w.forCall tape i) .any w.heap.size f i∧
   s.pre6 enc C.prog fn conds false (w.forCall tape i).memory i.args∧({}:Assume).holds C.prog (lone (Frame.enter C.prog f i.args .normal) [] (w.forCall tape i)))
  (contract:∀(W:World) (base:Nat) (args:Array Value) (ds:List (DataW H)) (before:List MemPlace),
   Given enc C.prog fn.params.toList W base args.toList ds before→Yes C.prog f args W) :
  ReturnsInHanded {} C os f .any (s.pre6 enc C.prog fn conds false) (s.post enc C.prog fn false true false false):=by
 refine returnsInHanded_of_change_sized own started noInit hfn witness ?_;intro W base args ds gs before hval hW _ hsz _;have hW':=hW;obtain⟨p,q,hA,hV,rfl,hfz,hnd⟩:=hW;have hV':DataW.TrodVars enc C.prog W (fun _=>true) [] gs q:=by rw[← hv];exact hV
 obtain⟨rfl,rfl⟩:=trodVars_none hV'
 have hpv:s.plain.varTypes C.prog=[]:=by
  unfold ChangeSpec.plain;rw[hv]
  rfl
 rw[hpv,List.append_nil,List.append_nil] at hsz;rw[List.append_nil] at hfz;refine(contract W base args ds p ⟨hA,fun j t v ht hv=>hval j t v (by simpa using ht) (by simpa using hv),hfz,hsz⟩).mono fun e W' ⟨he,bel⟩=>?_
 exact⟨_,he,UK hl hf hv hres hb hread hW' bel⟩
section
variable {H:Type}{enc:TypeId×Value→H}{P:Program}{W:World}{base:Nat}
theorem Given.cons{t:TypeId}{ts:List TypeId}{args:List Value}{ds:List (DataW H)}{before:List MemPlace}(h:Given enc P (t::ts) W base args ds before):
  ∃v vs d ds' p q,args=v::vs∧ds=d::ds'∧before=p++q∧DataW.Trod enc P W 0 (fun _=>true) true t v d p∧Value.okWide P W .any base t v∧W.noneFrozen p∧
   (d.weights P t).all (·≤reachBytes)=true∧Given enc P ts W base vs ds' q:=by
 obtain⟨h1,h2,h3,h4⟩:=h;obtain⟨v,vs,d,ds',p,q,rfl,rfl,rfl,h0,hr⟩:=trodAll_cons h1;simp only[DataW.weightsEach,List.all_append,Bool.and_eq_true] at h4
 exact⟨v,vs,d,ds',p,q,rfl,rfl,rfl,h0,h2 0 t v rfl rfl,fun b o hm=>h3 b o (List.mem_append_left _ hm),h4.1,
  hr,fun j t' v' ht hv=>h2 (j+1) t' v' ht hv,fun b o hm=>h3 b o (List.mem_append_right _ hm),h4.2⟩
theorem Given.nil{args:List Value}{ds:List (DataW H)}{before:List MemPlace}(h:Given enc P [] W base args ds before):args=[]∧ds=[]:=by
 obtain⟨rfl,rfl,_⟩:=trodAll_nil h.1;exact uw
theorem Given.int{t:TypeId}{ts:List TypeId}{k:IntKind}{args:List Value}{ds:List (DataW H)}{before:List MemPlace}(ht:P.underlying t=some (.int k))(h:Given enc P (t::ts) W base args ds before):
  ∃(n:Int) (vs:List Value) (ds':List (DataW H)) (q:List MemPlace),args=.int k n::vs∧ds=.lit (.int k n)::ds'∧(Lit.int k n).wf=true∧Given enc P ts W base vs ds' q:=by
 obtain⟨v,vs,d,ds',p,q,rfl,rfl,rfl,h0,hok,_,_,hg⟩:=h.cons;obtain⟨n,rfl,rfl,rfl,hwf⟩:=open_int ht hok h0;exact⟨n,vs,ds',q,rfl,rfl,hwf,hg⟩
theorem Given.bool{t:TypeId}{ts:List TypeId}{args:List Value}{ds:List (DataW H)}{before:List MemPlace}(ht:P.underlying t=some .bool)(h:Given enc P (t::ts) W base args ds before):
  ∃(b:Bool) (vs:List Value) (ds':List (DataW H)) (q:List MemPlace),args=.bool b::vs∧ds=.lit (.bool b)::ds'∧Given enc P ts W base vs ds' q:=by
 obtain⟨v,vs,d,ds',p,q,rfl,rfl,rfl,h0,hok,_,_,hg⟩:=h.cons;obtain⟨b,rfl,rfl,rfl⟩:=open_bool ht hok h0;exact⟨b,vs,ds',q,rfl,rfl,hg⟩
end
theorem ajj{s:ChangeSpec}(h:∀(H:Type) (a b:DataW H),s.fn H [a,b] = { results:=[.lit (.bool true)],args:=[a,b] }):Fits s 2
 | H,[a,b],_=>h H a b
theorem abM{args:Array Value}{l:List Value}(h:args.toList=l):args=l.toArray:=by cases args;simp_all
end Lift
section
open Go.ChangeShapes Go.WideShapes Go.Deep Go.RowKit
section
variable {H:Type}{enc:TypeId×Value→H}{P:Program}{W:World}{base:Nat}{α:Type}
theorem mD{e:TypeId}{x:DataW H}{n:Nat}(hn:n∈x.weights P e):∀{l:List (DataW H)},x∈l→n∈DataW.weightsAll P e l
 | d::r,h=>by
  rw[DataW.weightsAll,List.mem_append]
  rcases List.mem_cons.1 h with rfl|h
  ·exact .inl hn
  ·exact .inr (mD hn h)
mutual
theorem Xr:∀(d:DataW H),1≤Rows.uptoBulk d
 | .lit l=>by cases l<;>(unfold Rows.uptoBulk;omega)
 | .nil=>by unfold Rows.uptoBulk;omega
 | .ptr d=>by unfold Rows.uptoBulk;omega
 | .slice a b=>by unfold Rows.uptoBulk;omega
 | .agg a=>by unfold Rows.uptoBulk;omega
 | .iface _ d=>by unfold Rows.uptoBulk;omega
 | .map _=>by unfold Rows.uptoBulk;omega
 | .held _=>by unfold Rows.uptoBulk;omega
end
theorem sW:∀(l:List (DataW H)),l.length≤Rows.uptoBulkAll l
 | []=>Nat.zero_le _
 | d::r=>by
  rw[Rows.uptoBulkAll,List.length_cons];have:=Xr d;have:=sW r;omega
theorem yP{d:DataW H}:∀{l:List (DataW H)},d∈l→Rows.uptoBulk d≤Rows.uptoBulkAll l
 | x::r,h=>by
  rw[Rows.uptoBulkAll]
  rcases List.mem_cons.1 h with rfl|h
  ·omega
  ·have:=yP h
   omega
def Opens(enc:TypeId×Value→H)(L:Lay P α)(Good:α→DataW H→Prop):Prop:=
 ∀(W:World) (n:Nat) (cs:List Value) (x:DataW H×List MemPlace),DataW.trod enc P W 0 (fun _=>true) true n L.e cs=some x→∃it:α,cs=L.f it∧Good it x.1
theorem Lift.Given.things{L:Lay P α}{Good:α→DataW H→Prop}(hop:Opens enc L Good)(hcells:P.cellsOf L.e=L.k)(hbytes:P.bytesOf L.e=L.bytes)
  {ts:List TypeId} {args:List Value} {ds:List (DataW H)} {before:List MemPlace} (h:Lift.Given enc P (L.t::ts) W base args ds before) :
  ∃(A:Option Addr) (c:Nat) (l:List α) (vs:List Value) (d:DataW H) (ds':List (DataW H)) (q:List MemPlace),args=.slice A l.length c::vs∧ds=d::ds'∧L.Reads W W.heap.size A l∧(A=none→l=[])∧
   (∀x∈l,∃dx,Good x dx∧(dx.weights P L.e).all (·≤reachBytes)=true∧Rows.uptoBulk dx≤Rows.uptoBulk d)∧l.length*L.bytes≤reachBytes∧l.length≤Rows.uptoBulk d∧l.length≤c∧Lift.Given enc P ts W base vs ds' q:=by
 obtain⟨v,vs,d,ds',p,q,rfl,rfl,rfl,h0,hok,_,hw,hg⟩:=h.cons;obtain⟨fuel,h0⟩:=h0;obtain⟨a0,qd,cap0,rfl⟩:=okWide_slice L.und hok
 rcases open_slice L.und h0 with ⟨hcs,hx⟩|⟨a,len,cap,m,n,D,Pl,hcs,_,hl,hm,hmm,hx,hi⟩
 ·simp[Value.cells] at hcs
  obtain⟨rfl,rfl,rfl⟩:=hcs;cases hx;exact⟨none,0,[],vs,_,ds',q,rfl,rfl,Lay.Reads.nil _ _ _,fun _=>rfl,(fun x hx=>by cases hx),by simp,Nat.zero_le _,Nat.zero_le _,hg⟩
 ·simp[Value.cells] at hcs
  obtain⟨rfl,rfl,rfl⟩:=hcs;simp only[if_true] at hmm;subst hmm;cases hx
  have hall:∀i,i<m→∃it:α,(∀j u,(L.f it)[j]?=some u→W.cell? ((a.add (i*L.k)).add j)=some u)∧Good it (D i):=fun i him=>by
   obtain⟨cs,hc,ht⟩:=hi i him;obtain⟨it,rfl,hg⟩:=hop W _ _ _ ht;exact aeg
  by_cases h0:qd=0
  ·subst h0
   refine⟨some a,m,[],vs,_,ds',q,rfl,rfl,Lay.Reads.nil _ _ _,(fun h=>by cases h),(fun x hx=>by cases hx),by simp,Nat.zero_le _,Nat.zero_le _,hg⟩
  have:Inhabited α:=⟨(hall 0 (by omega)).choose⟩;obtain⟨f,hf⟩:=choose_lt hall;have hlen:((List.range qd).map f).length=qd:=by simp
  have hget:∀i x,((List.range qd).map f)[i]?=some x→i<qd∧x=f i:=fun i x hx=>by
   rw[List.getElem?_map] at hx;obtain⟨j,hj,rfl⟩:=Option.map_eq_some_iff.1 hx
   have hlt:i<qd:=by
    rcases Nat.lt_or_ge i qd with h|h
    ·exact h
    ·rw[List.getElem?_eq_none (by simpa using h)] at hj;cases hj
   rw[List.getElem?_range hlt] at hj;cases hj;exact⟨hlt,rfl⟩
  have hmem:∀x∈(List.range qd).map f,∃i,i<qd∧x=f i:=fun x hx=>by
   obtain⟨i,hi,rfl⟩:=List.mem_map.1 hx;exact⟨i,List.mem_range.1 hi,rfl⟩
  have hsome:∃u,W.cell? a=some u:=by
   exact aeh
  obtain⟨u0,hu0⟩:=hsome
  have ha:a=⟨a.block,a.off,none⟩:=by
   obtain⟨b,o,sp⟩:=a
   cases sp with
   | none=>rfl
   | some z=>unfold World.cell? at hu0;split at hu0<;>simp at hu0
  have hW:(DataW.weights P L.t (.slice ((List.range qd).map D) ((List.range (m-qd)).map fun j=>D (qd+j)):DataW H)).all (·≤reachBytes)=true:=hw;unfold DataW.weights at hW;rw[L.und] at hW;simp only[List.all_cons,List.all_append,Bool.and_eq_true,decide_eq_true_eq,List.length_map,List.length_range,hbytes] at hW;obtain⟨hW1,hW2,_⟩:=hW;refine⟨some a,m,(List.range qd).map f,vs,_,ds',q,by rw[hlen],rfl,fun hp=>?_,(fun h=>by cases h),fun x hx=>?_,?_,?_,by rw[hlen];exact hl,hg⟩
  ·refine⟨a.block,a.off,by rw[← ha],World.block_lt_of_cell? W a hu0,fun i x hx j u hu=>?_⟩
   exact aee
  ·obtain⟨i,hi',rfl⟩:=hmem x hx
   have hD:D i∈(List.range qd).map D:=List.mem_map.2 ⟨i,List.mem_range.2 hi',rfl⟩;refine⟨D i,(hf i (by omega)).2,List.all_eq_true.2 fun n hn=>List.all_eq_true.1 hW2 n (mD hn hD),?_⟩;have:=yP hD;rw[Rows.uptoBulk];omega
  ·rw[hlen]
   exact SH
  ·rw[hlen,Rows.uptoBulk]
   have:=sW ((List.range qd).map D);simp only[List.length_map,List.length_range] at this;omega
theorem Lift.Given.thing{L:Lay P α}{Good:α→DataW H→Prop}(hop:Opens enc L Good){fs:Array Field}(hs:P.underlying L.e=some (.struct fs))
  {ts:List TypeId} {args:List Value} {ds:List (DataW H)} {before:List MemPlace} (h:Lift.Given enc P (L.e::ts) W base args ds before) :
  ∃(x:α) (vs:List Value) (d:DataW H) (ds':List (DataW H)) (q:List MemPlace),args=.agg (L.f x).toArray::vs∧ds=d::ds'∧Good x d∧(d.weights P L.e).all (·≤reachBytes)=true∧Lift.Given enc P ts W base vs ds' q:=by
 obtain⟨v,vs,d,ds',p,q,rfl,rfl,rfl,h0,hok,_,hw,hg⟩:=h.cons;obtain⟨fuel,h0⟩:=h0;obtain⟨cs,rfl,hsz⟩:=okWide_struct hs hok;obtain⟨it,hit,hgd⟩:=hop W _ _ _ h0;refine⟨it,vs,d,ds',q,?_,rfl,hgd,hw,hg⟩;have hc:cs.toList=L.f it:=by simpa [Value.cells] using hit
 rw[← hc]
end
end
end Go.Proofs.YtahdlddbbnjloaaGreat
