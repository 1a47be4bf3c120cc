/- Each thing that is read takes an item at least; what is read has floats' bits that are 64. No condition but those named. -/
import Derived.Test.YtieoeendnccafaaGreatMTK
import Derived.Test.YtieoeendnccafaaGreatMAR
import Derived.Test.YtieoeendnccafaaGreatMAO
import Derived.Test.YtieoeendnccafaaGreatMBE
import Derived.Test.YtieoeendnccafaaGreatMAP
import Derived.Test.YtieoeendnccafaaGreatMAE
set_option linter.unusedSimpArgs false
set_option linter.unusedVariables false
set_option maxRecDepth 100000
set_option maxHeartbeats 25600000
namespace Go.Proofs.YtieoeendnccafaaGreat
section
open Go.RowKit
structure But(g:Nat)(w W:World):Prop where
 os:W.os=w.os
 tape:W.tape=w.tape
 output:W.output=w.output
 size:W.heap.size=w.heap.size
 block:∀k,¬k=g→W.heap[k]?=w.heap[k]?
theorem But.refl(g:Nat)(w:World):But g w w:=⟨rfl,rfl,rfl,rfl,fun _ _=>rfl⟩
def Rds(g:Nat)(l:Snp.Its)(w:World):Prop:=∃(A:Option Addr) (n c:Nat),Blk w g 142 #[.slice A n c]∧itemLay.Reads w g A l∧l.length=n∧(A=none→l=[])∧n≤c∧n≤16384
theorem Rds.lt{g:Nat}{l:Snp.Its}{w:World}(h:Rds g l w):g<w.heap.size:=by
 obtain⟨A,n,c,hb,_⟩:=h
 exact hb.lt
theorem Rds.keep{g:Nat}{l:Snp.Its}{w w':World}(h:Rds g l w)(hb:∀k,k≤g→w'.heap[k]?=w.heap[k]?):Rds g l w':=by
 obtain⟨A,n,c,h1,h2,h3⟩:=h
 exact⟨A,n,c,(hb g (Nat.le_refl _)).trans h1,h2.keep fun p hp=>World.cell?_of_block (hb p.block (Nat.le_of_lt hp)),h3⟩
theorem Rds.below{g b:Nat}{l:Snp.Its}{w w':World}(h:Rds g l w)(hb:Below b w w')(hg:g<b):Rds g l w':=h.keep fun k hk=>hb.block k (by omega)
def Rst(g:Nat)(w W0:World)(l:Snp.Its):Prop:=But g w W0∧Rds g l W0
theorem Rst.start{g:Nat}{l:Snp.Its}{w:World}(h:Rds g l w):Rst g w w l:=⟨But.refl g w,h⟩
section
variable {b0:Nat}{w0 w0' w w' W0 wc w1:World}{L:List (Nat×TypeId×Array Value)}{R Rn:List RowE}{g:Nat}{l r:Snp.Its}
theorem Kn.other(h:Kn b0 w0 w L R)(hb:Below b0 w0' w')(hz:w'.heap.size=w.heap.size)(hk:∀k,b0≤k→w'.heap[k]?=w.heap[k]?):Kn b0 w0' w' L R:=by
 refine⟨hb,by rw[hz];exact h.m,fun i x hx=>⟨(h.l i x hx).1,(hk _ (h.l i x hx).1).trans (h.l i x hx).2⟩,fun i y hy=>?_,h.ll,h.lr,h.rr⟩
 obtain⟨h1,h2⟩:=h.r i y hy
 refine⟨h1,?_⟩
 rcases h2 with h0|⟨q,cap,cur,hv,hq,hg,hr⟩
 ·exact .inl h0
 ·exact .inr ⟨q,cap,cur,hv,hq,by rw[hk q hq];exact hg,hr⟩
theorem Rst.lt(h:Rst g w W0 l):g<w.heap.size:=by
 have:=h.2.lt
 rw[h.1.size] at this
 exact this
theorem Rst.at(h:Rst g w W0 l)(k:Kn w.heap.size W0 wc L R):Rds g l wc:=h.2.below k.b h.lt
theorem Rst.grown(h:Rst g w W0 l)(k:Kn w.heap.size W0 wc L R):w.grownBy wc (some g):=
 ⟨k.b.os.trans h.1.os,k.b.tape.trans h.1.tape,k.b.output.trans h.1.output,k.m,fun i hi hne=>(k.b.block i hi).trans (h.1.block i (fun e=>hne (by rw[e])))⟩
def Rok(g:Nat)(r:Snp.Its)(Rn:List RowE)(w w':World):Prop:=∃W1,Rst g w W1 r∧Kn w.heap.size W1 w' [] Rn
theorem Rok.mk(h:Rst g w W0 r)(k:Kn w.heap.size W0 w' L R):Rok g r R w w':=⟨W0,h,k.takeL 0⟩
theorem Rok.join(h:Rst g w W0 l)(k:Kn w.heap.size W0 wc L R)(q:Rok g r Rn wc w1):∃W1,Hid (Rst g w W1 r)∧Hid (Kn w.heap.size W1 w1 L (R++Rn)):=by
 obtain⟨V,⟨vb,vr⟩,kv⟩:=q
 have hg:g<w.heap.size:=h.lt
 have hm:=k.m
 have hV:g<V.heap.size:=vr.lt
 refine⟨{ w with heap:=w.heap.setIfInBounds g V.heap[g] },?_⟩
 have hz:(w.heap.setIfInBounds g V.heap[g]).size=w.heap.size:=by simp
 have hsame:∀i,i<w.heap.size→(w.heap.setIfInBounds g V.heap[g])[i]?=V.heap[i]?:=fun i hi=>by
  by_cases e:i=g
  ·subst e
   rw[Array.getElem?_setIfInBounds_self_of_lt hg,Array.getElem?_eq_getElem hV]
  ·rw[Array.getElem?_setIfInBounds_ne (fun q=>e q.symm),vb.block i e,k.b.block i hi,h.1.block i e]
 have hbut:But g w { w with heap:=w.heap.setIfInBounds g V.heap[g] }:=⟨rfl,rfl,rfl,hz,fun i hi=>by
  show(w.heap.setIfInBounds g V.heap[g])[i]?=_
  rw[Array.getElem?_setIfInBounds_ne (fun q=>hi q.symm)]⟩
 have hbel:Below w.heap.size { w with heap:=w.heap.setIfInBounds g V.heap[g] } V:=
  ⟨vb.os.trans (k.b.os.trans h.1.os),vb.tape.trans (k.b.tape.trans h.1.tape),vb.output.trans (k.b.output.trans h.1.output),by show(w.heap.setIfInBounds g V.heap[g]).size≤_;rw[hz,vb.size];exact hm,fun i hi=>(hsame i hi).symm⟩
 have kn:Kn w.heap.size { w with heap:=w.heap.setIfInBounds g V.heap[g] } V L R:=k.other hbel vb.size fun i hi=>vb.block i (by omega)
 refine⟨zH ⟨hbut,vr.keep fun i hi=>hsame i (by omega)⟩,zH (kn.join ?_)⟩
 rw[vb.size]
 exact kv
end
def Rno(g:Nat)(w:World)(e:Ending)(w':World):Prop:=e=.panicked [{ v:=.iface 23 (.int .i64 3),recovered:=false }]∧w.grownBy w' (some g)
def Rp{α:Type}(p:Snp.P α)(enc:α→Value)(g:Nat)(l:Snp.Its)(w:World)(e:Ending)(w':World):Prop:=match p l with
 | some (x,r)=>e=.returned (enc x)∧Rok g r [] w w'
 | none=>Rno g w e w'
section
variable {α:Type}{p:Snp.P α}{enc:α→Value}{g:Nat}{l r:Snp.Its}{w w':World}{e:Ending}{x:α}
theorem Rp.split(h:Rp p enc g l w e w'):(p l=none∧e=.panicked [{ v:=.iface 23 (.int .i64 3),recovered:=false }]∧w.grownBy w' (some g))∨∃x r,p l=some (x,r)∧e=.returned (enc x)∧Rok g r [] w w':=by
 unfold Rp at h
 split at h
 ·next x r hp=>exact .inr ⟨x,r,hp,h⟩
 ·next hp=>exact .inl ⟨hp,h⟩
theorem Rp.yes(hp:p l=some (x,r))(h:Rok g r [] w w'):Rp p enc g l w (.returned (enc x)) w':=by
 unfold Rp
 rw[hp]
 exact⟨rfl,h⟩
theorem Rp.no(hp:p l=none)(h:w.grownBy w' (some g)):Rp p enc g l w (.panicked [{ v:=.iface 23 (.int .i64 3),recovered:=false }]) w':=by
 unfold Rp
 rw[hp]
 exact⟨rfl,h⟩
end
theorem grown_thru{a b c:World}{q:Option Nat}(h:a.grownBy b q)(k:b.grownBy c q):a.grownBy c q:=
 ⟨k.os.trans h.os,k.tape.trans h.tape,k.output.trans h.output,Nat.le_trans h.size k.size,fun i hi hne=>(k.block i (Nat.lt_of_lt_of_le hi h.size) hne).trans (h.block i hi hne)⟩
theorem Snp.bnd_none{α β:Type}{p:Snp.P α}{f:α→Snp.P β}{l:Snp.Its}(h:p l=none):Snp.bnd p f l=none:=by
 unfold Snp.bnd;rw[h]
theorem ret_c{f:Func}{Q:Ending→World→Prop}{a:Act}{w:World}{B:Nat}{T:TypeId}{cs:Array Value}{fs:Array Field}{q:Tmp}(hf:f.results=#[.cell q T])(h2:a.tmps[q]?=some (.pointer (some ⟨B,0,none⟩)))(hd:a.defers=[])(hb:Blk w B T cs)(hu:Tryz.prog.underlying T=some (.struct fs))(hi:(Tryz.prog.info? T).map (·.size)=some cs.size)
  (hR:Q (.returned (.agg cs)) w):bodyPost Tryz.prog f Q Exit.ret a w:=
 bodyPost_ret (results_cell_row hf a.tmps w B _ _ (0,0) _ (by simp[h2]) hb hu rfl hi) hd hR
section
variable {P:Program}{b0:Nat}{w0 w w':World}{L:List (Nat×TypeId×Array Value)}{R:List RowE}{o:Oper}{a:Act}{Q:Exit→Act→World→Prop}
theorem kwp_scw{K:Act→World→Prop}(HK:Hid (Kn b0 w0 w L R))(ty:TypeId)(x y:Operand)(ho:o.op=.store ty x y)(i:Nat){g off:Nat}{t:TypeId}{cs:Array Value}(hL:L[i]?=some (g,t,cs))(hx:a.eval x=.pointer (some ⟨g,off,none⟩))
  {v:Value} (hy:a.eval y=v) (hc:v.cells=#[v]) (h1:v.oneCell'=true) (hsz:off<cs.size) (hi:(P.info? ty).map (·.size)=some 1)
  (h:K (a.put o.dst undef) (w.setCell ⟨g,off,none⟩ v)):o.wp P a w K Q:=by
 have hb:=HK.out.blk i hL
 have hcell:∃u,w.cell? ⟨g,off,none⟩=some u:=⟨_,(hb.cell off).trans (Array.getElem?_eq_getElem hsz)⟩
 have hs:=run_storeCells_cells (P:=P) g off [v] 0 w (fun j hj=>by
   have:j=0:=by simpa using hj
   subst this
   rw[hb.cell,Array.getElem?_eq_getElem (by omega)];rfl) (fun j _=>hb.frozen _) (fun u hu=>by simp at hu;subst hu;exact h1)
 simp only[Nat.add_zero] at hs
 have hr:(storeVar ty ⟨g,off,none⟩ v).run P w=.ok () (w.setCell ⟨g,off,none⟩ v):=by
  cases hq:P.info? ty with
  | none=>simp[hq] at hi
  | some q=>
   have hs1:q.size=1:=by simpa [hq] using hi
   simp[storeVar,sizeOf,typeInfo,hq,hc,hs1,hs,World.setCells]
 have h3:(w.setCell ⟨g,off,none⟩ v).heap.size=w.heap.size:=by simp[World.setCell]
 unfold Oper.wp execOp
 simp only[ho,hx,hy,Instr.storeAt,Instr.sureAddr,Sem.run_bind,Sem.run_pure,Result.andThen_ok,hr]
 exact h
end
theorem wpList_srd{w W0 wc:World}{L:List (Nat×TypeId×Array Value)}{R:List RowE}{g n c:Nat}{A:Option Addr}{l r:Snp.Its}{ops:Array Oper}{rest:List Oper}{o:Oper}{a:Act}{Q:Exit→Act→World→Prop}(HW:Hid (Rst g w W0 l))(HK:Hid (Kn w.heap.size W0 wc L R))(hgd:o.guard=none)(p q:Operand)(ho:o.op=.store 84 p q)(hx:a.eval p=.pointer (some ⟨g,0,none⟩))(hy:a.eval q=.slice A n c)
  (hr:Hid (∀W,Below w.heap.size W0 W→itemLay.Reads W g A r∧r.length=n∧(A=none→r=[])∧n≤c∧n≤16384))
  (h:∀W1 w',Hid (Rst g w W1 r)→Hid (Kn w.heap.size W1 w' L R)→wpList Tryz.prog ops Q rest (a.put o.dst undef) w'):wpList Tryz.prog ops Q (o::rest) a wc:=
 wpList_plain hgd fun K hK=>by
  obtain⟨A0,n0,c0,hb0,_⟩:=HW.out.2
  have hg:=HW.out.lt
  have hbc:Blk wc g 142 #[.slice A0 n0 c0]:=hb0.below HK.out.b hg
  have hk1:Hid (Kn g wc wc [(g,142,#[.slice A0 n0 c0])] []):=zH ⟨Below.refl _ _,Nat.le_of_lt hbc.lt,fun i x hx=>by
   match i,hx with
   | 0,hx=>cases hx;exact⟨Nat.le_refl _,hbc⟩,fun i y hy=>by simp at hy,fun i j x y hx hy hij=>by
   match i,j,hx,hy with
   | 0,0,_,_=>exact absurd rfl hij,fun i j x y _ hy=>by simp at hy,fun i j x y hx=>by simp at hx⟩
  refine kwp_scw hk1 84 p q ho 0 rfl hx hy rfl rfl (by show 0<1;decide) (by kernel_rfl) ?_
  have hfar:∀k,¬k=g→(wc.setCell ⟨g,0,none⟩ (.slice A n c)).heap[k]?=wc.heap[k]?:=fun k hk=>Below.heap_setCell _ _ _ k hk
  have hfar0:∀k,¬k=g→(W0.setCell ⟨g,0,none⟩ (.slice A n c)).heap[k]?=W0.heap[k]?:=fun k hk=>Below.heap_setCell _ _ _ k hk
  have hz:(wc.setCell ⟨g,0,none⟩ (.slice A n c)).heap.size=wc.heap.size:=by simp[World.setCell]
  have hz0:(W0.setCell ⟨g,0,none⟩ (.slice A n c)).heap.size=W0.heap.size:=by simp[World.setCell]
  have hb1:Blk (wc.setCell ⟨g,0,none⟩ (.slice A n c)) g 142 #[.slice A n c]:=hbc.set_ 0 _
  have hb2:Blk (W0.setCell ⟨g,0,none⟩ (.slice A n c)) g 142 #[.slice A n c]:=hb0.set_ 0 _
  have hr0:=hr.out W0 (Below.refl _ _)
  have hbel:Below w.heap.size (W0.setCell ⟨g,0,none⟩ (.slice A n c)) (wc.setCell ⟨g,0,none⟩ (.slice A n c)):=⟨HK.out.b.os,HK.out.b.tape,HK.out.b.output,by rw[hz,hz0];exact HK.out.b.size,fun k hk=>by
   by_cases e:k=g
   ·subst e
    exact Eq.trans hb1 (Eq.symm hb2)
   ·rw[hfar k e,hfar0 k e]
    exact HK.out.b.block k hk⟩
  refine hK _ _ (h (W0.setCell ⟨g,0,none⟩ (.slice A n c)) _ (zH ⟨⟨HW.out.1.os,HW.out.1.tape,HW.out.1.output,hz0.trans HW.out.1.size,fun k hk=>(hfar0 k hk).trans (HW.out.1.block k hk)⟩,A,n,c,hb2,hr0.1.keep fun p hp=>World.cell?_of_block (hfar0 _ (by omega)),hr0.2⟩) (zH (HK.out.other hbel hz fun k hk=>hfar k (by omega))))
theorem cut_one{W:World}{g b o n c:Nat}{x:Itm.It}{r:Snp.Its}(hr:itemLay.Reads W g (some ⟨b,o,none⟩) (x::r))(hl:(x::r).length=n)(hc:n≤c)(hn:n≤16384):
  itemLay.Reads W g (subA 3 (some ⟨b,o,none⟩) 1 c) r∧r.length=n-1∧(subA 3 (some ⟨b,o,none⟩) 1 c=none→r=[])∧n-1≤c-1∧n-1≤16384:=by
 have hl2:r.length+1=n:=hl
 refine⟨fun h0=>?_,by omega,fun e=>?_,by omega,by omega⟩
 ·have h1:=hr.drop 1 h0
  unfold subA
  rw[if_neg (by omega)]
  exact h1
 ·unfold subA at e
  split at e
  ·cases e
  ·cases e
theorem cut_some{W:World}{g b o n c:Nat}{l:Snp.Its}(k:Nat)(hr:itemLay.Reads W g (some ⟨b,o,none⟩) l)(hl:l.length=n)(hc:n≤c)(hn:n≤16384)(hk:k≤n):
  itemLay.Reads W g (subA 3 (some ⟨b,o,none⟩) k c) (l.drop k)∧(l.drop k).length=n-k∧(subA 3 (some ⟨b,o,none⟩) k c=none→l.drop k=[])∧n-k≤c-k∧n-k≤16384:=by
 refine⟨fun h0=>?_,by rw[List.length_drop];omega,fun e=>?_,by omega,by omega⟩
 ·have h1:=hr.drop k h0
  rw[List.length_drop] at h0
  unfold subA
  rw[if_neg (by omega),Option.map_some,Lay.add_at]
  exact h1
 ·unfold subA at e
  split at e
  ·cases e
  ·cases e
end
section
open Go.RowKit
def Snp.itm(k:Int):Snp.P Itm.It
 | x::r=>if x.k=k then some (x,r) else none
 | []=>none
theorem Snp.num_itm(l:Snp.Its):Snp.num l=Snp.bnd (Snp.itm 0) (fun x=>Snp.ret x.n) l:=by
 match l with
 | []=>rfl
 | x::r=>
  by_cases hk:x.k=0
  ·rw[show Snp.num (x::r)=some (x.n,r) from if_pos hk,Snp.bnd_of (show Snp.itm 0 (x::r)=some (x,r) from if_pos hk)]
   rfl
  ·rw[show Snp.num (x::r)=none from if_neg hk,Snp.bnd_none (show Snp.itm 0 (x::r)=none from if_neg hk)]
theorem Snp.txt_itm(l:Snp.Its):Snp.txt l=Snp.bnd (Snp.itm 1) (fun x=>Snp.ret x.s) l:=by
 match l with
 | []=>rfl
 | x::r=>
  by_cases hk:x.k=1
  ·rw[show Snp.txt (x::r)=some (x.s,r) from if_pos hk,Snp.bnd_of (show Snp.itm 1 (x::r)=some (x,r) from if_pos hk)]
   rfl
  ·rw[show Snp.txt (x::r)=none from if_neg hk,Snp.bnd_none (show Snp.itm 1 (x::r)=none from if_neg hk)]
theorem item_f1(k n:Int)(s:ByteArray)(w:World):(Instr.field 87 (.agg #[.int .i64 k,.int .i64 n,.string s]) 1).run Tryz.prog w=.ok (.int .i64 n) w:=by kernel_rfl
theorem item_f2(k n:Int)(s:ByteArray)(w:World):(Instr.field 87 (.agg #[.int .i64 k,.int .i64 n,.string s]) 2).run Tryz.prog w=.ok (.string s) w:=by kernel_rfl
theorem ritem_any(g:Nat)(k:Int)(l:Snp.Its)(w:World)(h:Rds g l w):Calls Tryz.prog 216 #[.pointer (some ⟨g,0,none⟩),.int .i64 k] w (Rp (Snp.itm k) (fun x=>.agg (itA x)) g l w):=by
 obtain⟨A,n,c,hb,hr,hl,hA,hc,hn⟩:=id h
 have HW:=zH (Rst.start h)
 have HK:=zH (Kn.start w)
 have HG:Hid (∀W,Below w.heap.size w W→W.cell? ⟨g,0,none⟩=some (.slice A n c)):=zH fun W hW=>(hW.cell (p:=⟨g,0,none⟩) hb.lt).trans (hb.cell 0)
 match l,h,hr,hl,hA,HW with
 | [],h,hr,hl,hA,HW=>
  obtain rfl:n=0:=hl.symm
  have HN:Hid (Snp.itm k []=none):=zH rfl
  clear h hr hl hA hb
  go_enter Tryz.func216,Tryz.ntmps216
  go_wp2_with (first|go_big_skip|(refine wpList_ait HK rfl rfl ?_;intro _ g1 HK';simp only[lcA,lnA] at HK';replace HK:=HK';clear HK')|refine zX (exec_cell (ad:=⟨g,0,none⟩) _ (by rfl) (by rfl) (HG.out _ HK.out.b) Tryz.underlying84 rfl) ?_)
  exact⟨rfl,Rp.no HN.out (HW.out.grown HK.out)⟩
 | x::r,h,hr,hl,hA,HW=>
  have hl2:r.length+1=n:=hl
  obtain⟨b,o,rfl,hbg,hat⟩:=hr (by show 0<r.length+1;omega)
  have hg:=hb.lt
  have HI:Hid (∀W,Below w.heap.size w W→itemLay.At W b o 0 x):=zH fun W hW=>(hat 0 x rfl).keep fun p hp=>hW.cell (by rw[hp];omega)
  have HC:Hid (∀W,Below w.heap.size w W→itemLay.Reads W g (subA 3 (some ⟨b,o,none⟩) 1 c) r∧r.length=n-1∧(subA 3 (some ⟨b,o,none⟩) 1 c=none→r=[])∧n-1≤c-1∧n-1≤16384):=zH fun W hW=>cut_one (hr.keep fun p hp=>hW.cell (by omega)) hl hc hn
  have h1:1≤n:=by omega
  have h2:((n:Int)==0)=false:=by simp;omega
  have h3:(0:Int)<(n:Int):=by omega
  by_cases hk:x.k=k
  ·have HN:Hid (Snp.itm k (x::r)=some (x,r)):=zH (if_pos hk)
   have hkk:(x.k != k)=false:=by rw[hk];simp
   clear h hr hl hA hb hat hl2 hk
   go_enter Tryz.func216,Tryz.ntmps216
   go_wp2_with (first|go_big_skip|(refine wpList_ait HK rfl rfl ?_;intro _ g1 HK';simp only[lcA,lnA] at HK';replace HK:=HK';clear HK')|refine zX (exec_cell (ad:=⟨g,0,none⟩) _ (by rfl) (by rfl) (HG.out _ HK.out.b) Tryz.underlying84 rfl) ?_|refine zX (exec_slx itemLay (b:=b) (off:=o) (i:=0) _ _ (by rfl) (by rfl) (by rfl) h1) ?_|refine zX (exec_cell (v:=.int .i64 x.k) (ad:=⟨b,o+0*3,none⟩) _ (by rfl) (by rfl) (HI.out _ HK.out.b 0 _ rfl) Tryz.underlying3 rfl) ?_|refine zX (exec_slv itemLay (off:=o+0*3) (x:=x) _ (by rfl) (by rfl) Tryz.underlying87 (HI.out _ HK.out.b)) ?_|(refine wpList_sit (y:=x) HK 1 rfl _ _ rfl rfl rfl rfl ?_;intro _ HK';simp only[List.set] at HK';replace HK:=HK';clear HK')|refine zX (exec_sls_l itemLay (A:=some ⟨b,o,none⟩) (lo:=1) _ _ (by rfl) (by rfl) (by rfl) h1) ?_|(refine wpList_srd HW HK rfl _ _ rfl rfl rfl HC ?_;intro W1 _ HW' HK';replace HW:=HW';replace HK:=HK';clear HW' HK')|refine zX (kexec_ld itemLay (p:=x) Tryz.underlying87 HK 1 _ (by rfl) (by rfl) (by rfl)) ?_|(refine wpList_sit (y:=x) HK 0 rfl _ _ rfl rfl rfl rfl ?_;intro _ HK';simp only[List.set] at HK';replace HK:=HK';clear HK'))
   exact ret_it (x:=x) Tryz.results216 rfl rfl (HK.out.blk 0 rfl) (Rp.yes HN.out (Rok.mk HW.out HK.out))
  ·have HN:Hid (Snp.itm k (x::r)=none):=zH (if_neg hk)
   have hkk:(x.k != k)=true:=by simpa using hk
   clear h hr hl hA hb hat hl2 hk
   go_enter Tryz.func216,Tryz.ntmps216
   go_wp2_with (first|go_big_skip|(refine wpList_ait HK rfl rfl ?_;intro _ g1 HK';simp only[lcA,lnA] at HK';replace HK:=HK';clear HK')|refine zX (exec_cell (ad:=⟨g,0,none⟩) _ (by rfl) (by rfl) (HG.out _ HK.out.b) Tryz.underlying84 rfl) ?_|refine zX (exec_slx itemLay (b:=b) (off:=o) (i:=0) _ _ (by rfl) (by rfl) (by rfl) h1) ?_|refine zX (exec_cell (v:=.int .i64 x.k) (ad:=⟨b,o+0*3,none⟩) _ (by rfl) (by rfl) (HI.out _ HK.out.b 0 _ rfl) Tryz.underlying3 rfl) ?_)
   exact⟨rfl,Rp.no HN.out (HW.out.grown HK.out)⟩
theorem rnum_any(g:Nat)(l:Snp.Its)(w:World)(h:Rds g l w):Calls Tryz.prog 172 #[.pointer (some ⟨g,0,none⟩)] w (Rp Snp.num (fun n=>.int .i64 n) g l w):=by
 have HI:=zH (fun g l w (h:Rds g l w)=>ritem_any g 0 l w h)
 have HW:=zH (Rst.start h)
 have HK:=zH (Kn.start w)
 have HP:=zH (Snp.num_itm l)
 clear h
 go_enter Tryz.func172,Tryz.ntmps172
 go_wp2_with fail
 refine(HI.out _ _ _ (HW.out.at HK.out)).mono ?_
 intro e w1 hq
 rcases hq.split with ⟨h1,rfl,hg⟩|⟨x,r,h1,rfl,hk⟩
 ·have HG:=zH (grown_thru (HW.out.grown HK.out) hg);have HN:=zH (HP.out.trans (Snp.bnd_none h1));clear hg h1 hq;go_wp2_with fail;exact⟨rfl,Rp.no HN.out HG.out⟩
 obtain⟨W1,HW1,HK1⟩:=hk.join HW.out HK.out;replace HP:=zH (HP.out.trans (Snp.bnd_of h1));replace HW:=HW1;replace HK:=HK1;clear HW1 HK1 h1 hk hq;simp only[List.append_nil] at HK
 have hf1:=item_f1 x.k x.n x.s
 unfold itA
 go_wp2_with fail
 go_ret
 exact Rp.yes HP.out (Rok.mk HW.out HK.out)
theorem wrap_us2(n:Int):IntKind.u64.wrap n=(Val.us n:Int):=by
 rw[IntKind.wrap_u64];unfold Val.us;omega
theorem rbits_any(g:Nat)(l:Snp.Its)(w:World)(h:Rds g l w):Calls Tryz.prog 253 #[.pointer (some ⟨g,0,none⟩)] w (Rp Snp.bit (fun f=>.int .u64 (f:Int)) g l w):=by
 have HI:=zH rnum_any
 have HW:=zH (Rst.start h)
 have HK:=zH (Kn.start w)
 have HP:=zH (show Snp.bit l=Snp.bnd Snp.num (fun n=>Snp.ret (Val.us n)) l from rfl)
 clear h
 go_enter Tryz.func253,Tryz.ntmps253
 go_wp2_with fail
 refine(HI.out _ _ _ (HW.out.at HK.out)).mono ?_
 intro e w1 hq
 rcases hq.split with ⟨h1,rfl,hg⟩|⟨x,r,h1,rfl,hk⟩
 ·have HG:=zH (grown_thru (HW.out.grown HK.out) hg);have HN:=zH (HP.out.trans (Snp.bnd_none h1));clear hg h1 hq;go_wp2_with fail;exact⟨rfl,Rp.no HN.out HG.out⟩
 obtain⟨W1,HW1,HK1⟩:=hk.join HW.out HK.out;replace HP:=zH (HP.out.trans (Snp.bnd_of h1));replace HW:=HW1;replace HK:=HK1;clear HW1 HK1 h1 hk hq;simp only[List.append_nil] at HK
 have hus:=wrap_us2 x
 go_wp2_with fail
 go_ret
 exact Rp.yes HP.out (Rok.mk HW.out HK.out)
theorem rtext_any(g:Nat)(l:Snp.Its)(w:World)(h:Rds g l w):Calls Tryz.prog 217 #[.pointer (some ⟨g,0,none⟩)] w (Rp Snp.txt (fun s=>.string s) g l w):=by
 have HI:=zH (fun g l w (h:Rds g l w)=>ritem_any g 1 l w h)
 have HW:=zH (Rst.start h)
 have HK:=zH (Kn.start w)
 have HP:=zH (Snp.txt_itm l)
 clear h
 go_enter Tryz.func217,Tryz.ntmps217
 go_wp2_with fail
 refine(HI.out _ _ _ (HW.out.at HK.out)).mono ?_
 intro e w1 hq
 rcases hq.split with ⟨h1,rfl,hg⟩|⟨x,r,h1,rfl,hk⟩
 ·have HG:=zH (grown_thru (HW.out.grown HK.out) hg);have HN:=zH (HP.out.trans (Snp.bnd_none h1));clear hg h1 hq;go_wp2_with fail;exact⟨rfl,Rp.no HN.out HG.out⟩
 obtain⟨W1,HW1,HK1⟩:=hk.join HW.out HK.out;replace HP:=zH (HP.out.trans (Snp.bnd_of h1));replace HW:=HW1;replace HK:=HK1;clear HW1 HK1 h1 hk hq;simp only[List.append_nil] at HK
 have hf1:=item_f2 x.k x.n x.s
 unfold itA
 go_wp2_with fail
 go_ret
 exact Rp.yes HP.out (Rok.mk HW.out HK.out)
theorem rflag_any(g:Nat)(l:Snp.Its)(w:World)(h:Rds g l w):Calls Tryz.prog 225 #[.pointer (some ⟨g,0,none⟩)] w (Rp Snp.flag (fun b=>.bool b) g l w):=by
 have HI:=zH rnum_any
 have HW:=zH (Rst.start h)
 have HK:=zH (Kn.start w)
 have HP:=zH (show Snp.flag l=Snp.bnd Snp.num (fun n=>if n=0∨n=1 then Snp.ret (decide (n=1)) else fun _=>none) l from rfl)
 clear h
 go_enter Tryz.func225,Tryz.ntmps225
 go_wp2_with fail
 refine(HI.out _ _ _ (HW.out.at HK.out)).mono ?_
 intro e w1 hq
 rcases hq.split with ⟨h1,rfl,hg⟩|⟨x,r,h1,rfl,hk⟩
 ·have HG:=zH (grown_thru (HW.out.grown HK.out) hg);have HN:=zH (HP.out.trans (Snp.bnd_none h1));clear hg h1 hq;go_wp2_with fail;exact⟨rfl,Rp.no HN.out HG.out⟩
 obtain⟨W1,HW1,HK1⟩:=hk.join HW.out HK.out;replace HP:=zH (HP.out.trans (Snp.bnd_of h1));replace HW:=HW1;replace HK:=HK1;clear HW1 HK1 h1 hk hq;simp only[List.append_nil] at HK
 by_cases h0:x=0
 ·subst h0
  replace HP:Hid (Snp.flag l=some (false,r)):=HP
  go_wp2_with fail
  go_ret
  exact Rp.yes HP.out (Rok.mk HW.out HK.out)
 by_cases h1:x=1
 ·subst h1
  replace HP:Hid (Snp.flag l=some (true,r)):=HP
  clear h0
  go_wp2_with fail
  go_ret
  exact Rp.yes HP.out (Rok.mk HW.out HK.out)
 have HN:Hid (Snp.flag l=none):=zH (by
  have e:=HP.out
  (try simp only at e)
  rw[if_neg (by omega)] at e
  exact e)
 have e0:(x != 0)=true:=by simpa using h0
 have e1:(x != 1)=true:=by simpa using h1
 clear HP h0 h1
 go_wp2_with fail
 exact⟨rfl,Rp.no HN.out (HW.out.grown HK.out)⟩
theorem rval_any(g:Nat)(l:Snp.Its)(w:World)(h:Rds g l w):Calls Tryz.prog 221 #[.pointer (some ⟨g,0,none⟩)] w (Rp Snp.val vv g l w):=by
 obtain⟨A,n,c,hb,hr,hl,hA,hc,hn⟩:=id h
 have HW:=zH (Rst.start h)
 have HK:=zH (Kn.start w)
 have hg:=hb.lt
 have HG:Hid (∀W,Below w.heap.size w W→W.cell? ⟨g,0,none⟩=some (.slice A n c)):=zH fun W hW=>(hW.cell (p:=⟨g,0,none⟩) hg).trans (hb.cell 0)
 have HF:Hid (∀W,Below w.heap.size w W→Calls Tryz.prog 252 #[.slice A n c,.int .i64 0] W (IsVF2 (Val.take l) 0 (0+(Val.items (Val.take l)).length) n (0<n∧Val.chk (Val.take l)=0∧0+(Val.items (Val.take l)).length≤n∧l.take (Val.items (Val.take l)).length=Val.items (Val.take l)) W)):=zH fun W hW=>
  vfrom2_any A c n 0 l W hl (Nat.zero_le _) hc (by omega) ((hr.keep fun p hp=>hW.cell (by omega)).more (by have:=hW.size;omega))
 by_cases hcc:0<n∧Val.chk (Val.take l)=0∧0+(Val.items (Val.take l)).length≤n∧l.take (Val.items (Val.take l)).length=Val.items (Val.take l)
 ·have HN:Hid (Snp.val l=some (Val.take l,l.drop (Val.items (Val.take l)).length)):=zH (if_pos ⟨by omega,hcc.2.1,by have:=hcc.2.2.1;omega,hcc.2.2.2⟩)
  have hle:(Val.items (Val.take l)).length≤n:=by have:=hcc.2.2.1;omega
  obtain⟨b,o,rfl,hbg,hat⟩:=hr (by rw[hl];exact hcc.1)
  have HC:Hid (∀W,Below w.heap.size w W→itemLay.Reads W g (subA 3 (some ⟨b,o,none⟩) (Val.items (Val.take l)).length c) (l.drop (Val.items (Val.take l)).length)∧(l.drop (Val.items (Val.take l)).length).length=n-(Val.items (Val.take l)).length∧(subA 3 (some ⟨b,o,none⟩) (Val.items (Val.take l)).length c=none→l.drop (Val.items (Val.take l)).length=[])∧n-(Val.items (Val.take l)).length≤c-(Val.items (Val.take l)).length∧n-(Val.items (Val.take l)).length≤16384):=zH fun W hW=>cut_some _ (hr.keep fun p hp=>hW.cell (by omega)) hl hc hn hle
  unfold IsVF2 at HF
  have HCC:=zH hcc
  clear h hr hl hA hb hat hcc
  rw[Nat.zero_add] at HF
  generalize hm:(Val.items (Val.take l)).length=m at *
  clear hm
  generalize l.drop m=r at *
  generalize hv:Val.take l=v at *
  clear hv
  go_enter Tryz.func221,Tryz.ntmps221
  go_wp2_with (first|(refine wpList_akv HK rfl rfl ?_;intro _ g1 HK';simp only[lcA,lnA] at HK';replace HK:=HK';clear HK')|refine zX (exec_cell (ad:=⟨g,0,none⟩) _ (by rfl) (by rfl) (HG.out _ HK.out.b) Tryz.underlying84 rfl) ?_)
  refine(HF.out _ HK.out.b).mono ?_;rintro e w1 ⟨u,y,bb,rfl,f1,f2,f3,f4,b1⟩
  obtain⟨rfl,rfl,rfl⟩:=f1 (by simpa using HCC.out)
  replace HK:=hkC HK b1
  clear f1 f2 f3 f4 b1 HF HCC
  unfold vv
  go_wp2_with (first|(refine wpList_akv HK rfl rfl ?_;intro _ g2 HK';simp only[lcA,lnA] at HK';replace HK:=HK';clear HK')|(refine wpList_sv HK 1 rfl _ _ rfl rfl rfl rfl ?_;intro _ HK';simp only[List.set] at HK';replace HK:=HK';clear HK')|refine zX (exec_cell (ad:=⟨g,0,none⟩) _ (by rfl) (by rfl) (HG.out _ HK.out.b) Tryz.underlying84 rfl) ?_|refine zX (exec_sls_l itemLay (A:=some ⟨b,o,none⟩) (lo:=y) _ _ (by rfl) (by rfl) (by rfl) hle) ?_|(refine wpList_srd HW HK rfl _ _ rfl rfl rfl HC ?_;intro W1 _ HW' HK';replace HW:=HW';replace HK:=HK';clear HW' HK')|refine zX (kexec_vv HK 1 _ (by rfl) (by rfl) (by rfl)) ?_|(refine wpList_sv HK 0 rfl _ _ rfl rfl rfl rfl ?_;intro _ HK';simp only[List.set] at HK';replace HK:=HK';clear HK'))
  exact ret_v Tryz.results221 rfl rfl (HK.out.blk 0 rfl) (Rp.yes HN.out (Rok.mk HW.out HK.out))
 ·have HN:Hid (Snp.val l=none):=zH (if_neg fun q=>hcc ⟨by omega,q.2.1,by omega,q.2.2.2⟩)
  unfold IsVF2 at HF
  have HCC:=zH hcc
  clear h hr hl hA hb hcc
  go_enter Tryz.func221,Tryz.ntmps221
  go_wp2_with (first|(refine wpList_akv HK rfl rfl ?_;intro _ g1 HK';simp only[lcA,lnA] at HK';replace HK:=HK';clear HK')|refine zX (exec_cell (ad:=⟨g,0,none⟩) _ (by rfl) (by rfl) (HG.out _ HK.out.b) Tryz.underlying84 rfl) ?_)
  refine(HF.out _ HK.out.b).mono ?_;rintro e w1 ⟨u,y,bb,rfl,f1,f2,f3,f4,b1⟩
  obtain rfl:=f2 HCC.out
  replace HK:=hkC HK b1
  clear f1 f2 f3 f4 b1 HF HCC
  unfold vv
  go_wp2_with (first|(refine wpList_akv HK rfl rfl ?_;intro _ g2 HK';simp only[lcA,lnA] at HK';replace HK:=HK';clear HK')|(refine wpList_sv HK 1 rfl _ _ rfl rfl rfl rfl ?_;intro _ HK';simp only[List.set] at HK';replace HK:=HK';clear HK'))
  exact⟨rfl,Rp.no HN.out (HW.out.grown HK.out)⟩
theorem rref_any(g:Nat)(l:Snp.Its)(w:World)(h:Rds g l w):Calls Tryz.prog 223 #[.pointer (some ⟨g,0,none⟩)] w (Rp Snp.rfP (fun r=>rv r) g l w):=by
 have HN_:=zH rnum_any
 have HW:=zH (Rst.start h)
 have HK:=zH (Kn.start w)
 have HP:=zH (show Snp.rfP l=(Snp.bnd Snp.num fun a=>Snp.bnd Snp.num fun b=>Snp.bnd Snp.num fun c=>Snp.ret ⟨a,b,c⟩) l from rfl)
 clear h
 go_enter Tryz.func223,Tryz.ntmps223
 go_wp2_with (first|(refine wpList_akr HK rfl rfl ?_;intro _ g1 HK';simp only[lcA,lnA] at HK';replace HK:=HK';clear HK'))
 refine(HN_.out _ _ _ (HW.out.at HK.out)).mono ?_
 intro e w1 hq
 rcases hq.split with ⟨h1,rfl,hg⟩|⟨a,r1,h1,rfl,hk⟩
 ·have HG:=zH (grown_thru (HW.out.grown HK.out) hg);have HN:=zH (HP.out.trans (Snp.bnd_none h1));clear hg h1 hq;go_wp2_with fail;exact⟨rfl,Rp.no HN.out HG.out⟩
 obtain⟨W1,HW1,HK1⟩:=hk.join HW.out HK.out;replace HP:=zH (HP.out.trans (Snp.bnd_of h1));replace HW:=HW1;replace HK:=HK1;clear HW1 HK1 h1 hk hq;simp only[List.append_nil] at HK
 go_wp2_with (first|fail)
 refine(HN_.out _ _ _ (HW.out.at HK.out)).mono ?_
 intro e w1 hq
 rcases hq.split with ⟨h1,rfl,hg⟩|⟨b,r2,h1,rfl,hk⟩
 ·have HG:=zH (grown_thru (HW.out.grown HK.out) hg);have HN:=zH (HP.out.trans (Snp.bnd_none h1));clear hg h1 hq;go_wp2_with fail;exact⟨rfl,Rp.no HN.out HG.out⟩
 obtain⟨W1,HW1,HK1⟩:=hk.join HW.out HK.out;replace HP:=zH (HP.out.trans (Snp.bnd_of h1));replace HW:=HW1;replace HK:=HK1;clear HW1 HK1 h1 hk hq;simp only[List.append_nil] at HK
 go_wp2_with (first|fail)
 refine(HN_.out _ _ _ (HW.out.at HK.out)).mono ?_
 intro e w1 hq
 rcases hq.split with ⟨h1,rfl,hg⟩|⟨c,r3,h1,rfl,hk⟩
 ·have HG:=zH (grown_thru (HW.out.grown HK.out) hg);have HN:=zH (HP.out.trans (Snp.bnd_none h1));clear hg h1 hq;go_wp2_with fail;exact⟨rfl,Rp.no HN.out HG.out⟩
 obtain⟨W1,HW1,HK1⟩:=hk.join HW.out HK.out;replace HP:=zH (HP.out.trans (Snp.bnd_of h1));replace HW:=HW1;replace HK:=HK1;clear HW1 HK1 h1 hk hq;simp only[List.append_nil] at HK
 go_wp2_with (first|(refine wpList_sr HK 0 rfl _ _ rfl rfl rfl rfl ?_;intro _ HK';simp only[List.set] at HK';replace HK:=HK';clear HK'))
 exact ret_r Tryz.results223 rfl rfl (HK.out.blk 0 rfl) (Rp.yes (x:=(⟨a,b,c⟩:Rf)) HP.out (Rok.mk HW.out HK.out))
theorem rmt_any(g:Nat)(l:Snp.Its)(w:World)(h:Rds g l w):Calls Tryz.prog 224 #[.pointer (some ⟨g,0,none⟩)] w (Rp Snp.mtP (fun m=>.agg #[.int .i64 m.n,.int .u64 (m.s:Int),.int .u64 (m.l:Int),.int .u64 (m.m:Int)]) g l w):=by
 have HN_:=zH rnum_any
 have HB_:=zH rbits_any
 have HW:=zH (Rst.start h)
 have HK:=zH (Kn.start w)
 have HP:=zH (show Snp.mtP l=(Snp.bnd Snp.num fun a=>Snp.bnd Snp.bit fun b=>Snp.bnd Snp.bit fun c=>Snp.bnd Snp.bit fun d=>Snp.ret ⟨a,b,c,d⟩) l from rfl)
 clear h
 go_enter Tryz.func224,Tryz.ntmps224
 go_wp2_with (first|(refine wpList_akm HK rfl rfl ?_;intro _ g1 HK';simp only[lcA,lnA] at HK';replace HK:=HK';clear HK'))
 refine(HN_.out _ _ _ (HW.out.at HK.out)).mono ?_
 intro e w1 hq
 rcases hq.split with ⟨h1,rfl,hg⟩|⟨a,r1,h1,rfl,hk⟩
 ·have HG:=zH (grown_thru (HW.out.grown HK.out) hg);have HN:=zH (HP.out.trans (Snp.bnd_none h1));clear hg h1 hq;go_wp2_with fail;exact⟨rfl,Rp.no HN.out HG.out⟩
 obtain⟨W1,HW1,HK1⟩:=hk.join HW.out HK.out;replace HP:=zH (HP.out.trans (Snp.bnd_of h1));replace HW:=HW1;replace HK:=HK1;clear HW1 HK1 h1 hk hq;simp only[List.append_nil] at HK
 go_wp2_with (first|fail)
 refine(HB_.out _ _ _ (HW.out.at HK.out)).mono ?_
 intro e w1 hq
 rcases hq.split with ⟨h1,rfl,hg⟩|⟨b,r2,h1,rfl,hk⟩
 ·have HG:=zH (grown_thru (HW.out.grown HK.out) hg);have HN:=zH (HP.out.trans (Snp.bnd_none h1));clear hg h1 hq;go_wp2_with fail;exact⟨rfl,Rp.no HN.out HG.out⟩
 obtain⟨W1,HW1,HK1⟩:=hk.join HW.out HK.out;replace HP:=zH (HP.out.trans (Snp.bnd_of h1));replace HW:=HW1;replace HK:=HK1;clear HW1 HK1 h1 hk hq;simp only[List.append_nil] at HK
 go_wp2_with (first|fail)
 refine(HB_.out _ _ _ (HW.out.at HK.out)).mono ?_
 intro e w1 hq
 rcases hq.split with ⟨h1,rfl,hg⟩|⟨c,r3,h1,rfl,hk⟩
 ·have HG:=zH (grown_thru (HW.out.grown HK.out) hg);have HN:=zH (HP.out.trans (Snp.bnd_none h1));clear hg h1 hq;go_wp2_with fail;exact⟨rfl,Rp.no HN.out HG.out⟩
 obtain⟨W1,HW1,HK1⟩:=hk.join HW.out HK.out;replace HP:=zH (HP.out.trans (Snp.bnd_of h1));replace HW:=HW1;replace HK:=HK1;clear HW1 HK1 h1 hk hq;simp only[List.append_nil] at HK
 go_wp2_with (first|fail)
 refine(HB_.out _ _ _ (HW.out.at HK.out)).mono ?_
 intro e w1 hq
 rcases hq.split with ⟨h1,rfl,hg⟩|⟨d,r4,h1,rfl,hk⟩
 ·have HG:=zH (grown_thru (HW.out.grown HK.out) hg);have HN:=zH (HP.out.trans (Snp.bnd_none h1));clear hg h1 hq;go_wp2_with fail;exact⟨rfl,Rp.no HN.out HG.out⟩
 obtain⟨W1,HW1,HK1⟩:=hk.join HW.out HK.out;replace HP:=zH (HP.out.trans (Snp.bnd_of h1));replace HW:=HW1;replace HK:=HK1;clear HW1 HK1 h1 hk hq;simp only[List.append_nil] at HK
 go_wp2_with (first|(refine wpList_sm HK 0 rfl _ _ rfl rfl rfl rfl ?_;intro _ HK';simp only[List.set] at HK';replace HK:=HK';clear HK'))
 exact ret_c Tryz.results224 rfl rfl (HK.out.blk 0 rfl) Tryz.underlying61 info_m4 (Rp.yes (x:=(⟨a,b,c,d⟩:Mtr)) HP.out (Rok.mk HW.out HK.out))
theorem rpr_any(g:Nat)(l:Snp.Its)(w:World)(h:Rds g l w):Calls Tryz.prog 219 #[.pointer (some ⟨g,0,none⟩)] w (Rp Snp.prP (fun p=>.agg (prA p)) g l w):=by
 have HT:=zH rtext_any
 have HV:=zH rval_any
 have HW:=zH (Rst.start h)
 have HK:=zH (Kn.start w)
 have HP:=zH (show Snp.prP l=(Snp.bnd Snp.txt fun k=>Snp.bnd Snp.val fun v=>Snp.ret ⟨k,v⟩) l from rfl)
 clear h
 go_enter Tryz.func219,Tryz.ntmps219
 go_wp2_with (first|(refine wpList_akp HK rfl rfl ?_;intro _ g1 HK';simp only[lnA] at HK';replace HK:=HK';clear HK'))
 refine(HT.out _ _ _ (HW.out.at HK.out)).mono ?_
 intro e w1 hq
 rcases hq.split with ⟨h1,rfl,hg⟩|⟨k,r1,h1,rfl,hk⟩
 ·have HG:=zH (grown_thru (HW.out.grown HK.out) hg);have HN:=zH (HP.out.trans (Snp.bnd_none h1));clear hg h1 hq;go_wp2_with fail;exact⟨rfl,Rp.no HN.out HG.out⟩
 obtain⟨W1,HW1,HK1⟩:=hk.join HW.out HK.out;replace HP:=zH (HP.out.trans (Snp.bnd_of h1));replace HW:=HW1;replace HK:=HK1;clear HW1 HK1 h1 hk hq;simp only[List.append_nil] at HK
 go_wp2_with (first|fail)
 refine(HV.out _ _ _ (HW.out.at HK.out)).mono ?_
 intro e w1 hq
 rcases hq.split with ⟨h1,rfl,hg⟩|⟨v,r2,h1,rfl,hk⟩
 ·have HG:=zH (grown_thru (HW.out.grown HK.out) hg);have HN:=zH (HP.out.trans (Snp.bnd_none h1));clear hg h1 hq;go_wp2_with fail;exact⟨rfl,Rp.no HN.out HG.out⟩
 obtain⟨W1,HW1,HK1⟩:=hk.join HW.out HK.out;replace HP:=zH (HP.out.trans (Snp.bnd_of h1));replace HW:=HW1;replace HK:=HK1;clear HW1 HK1 h1 hk hq;simp only[List.append_nil] at HK
 unfold vv
 go_wp2_with (first|(refine wpList_sp (p1:=⟨⟨#[]⟩,⟨0,0,0,⟨#[]⟩⟩⟩) (p2:=⟨k,v⟩) HK 0 rfl _ _ rfl rfl rfl rfl ?_;intro _ HK';simp only[List.set] at HK';replace HK:=HK';clear HK'))
 exact ret_c Tryz.results219 rfl rfl (HK.out.blk 0 rfl) Tryz.underlying103 info_pr (Rp.yes (x:=(⟨k,v⟩:Dct.Pr)) HP.out (Rok.mk HW.out HK.out))
theorem rse_any(g:Nat)(l:Snp.Its)(w:World)(h:Rds g l w):Calls Tryz.prog 175 #[.pointer (some ⟨g,0,none⟩)] w (Rp Snp.seP (fun s=>.agg (seA s)) g l w):=by
 have HF:=zH rflag_any
 have HN_:=zH rnum_any
 have HV:=zH rval_any
 have HW:=zH (Rst.start h)
 have HK:=zH (Kn.start w)
 have HP:=zH (show Snp.seP l=(Snp.bnd Snp.flag fun a=>Snp.bnd Snp.num fun b=>Snp.bnd Snp.num fun c=>Snp.bnd Snp.flag fun d=>Snp.bnd Snp.num fun e=>Snp.bnd Snp.val fun v=>Snp.ret ⟨a,b,c,d,⟨e,v⟩⟩) l from rfl)
 clear h
 go_enter Tryz.func175,Tryz.ntmps175
 go_wp2_with (first|(refine wpList_ase HK rfl rfl ?_;intro _ g1 HK';simp only[lnA] at HK';replace HK:=HK';clear HK'))
 refine(HF.out _ _ _ (HW.out.at HK.out)).mono ?_
 intro e w1 hq
 rcases hq.split with ⟨h1,rfl,hg⟩|⟨a,r1,h1,rfl,hk⟩
 ·have HG:=zH (grown_thru (HW.out.grown HK.out) hg);have HN:=zH (HP.out.trans (Snp.bnd_none h1));clear hg h1 hq;go_wp2_with fail;exact⟨rfl,Rp.no HN.out HG.out⟩
 obtain⟨W1,HW1,HK1⟩:=hk.join HW.out HK.out;replace HP:=zH (HP.out.trans (Snp.bnd_of h1));replace HW:=HW1;replace HK:=HK1;clear HW1 HK1 h1 hk hq;simp only[List.append_nil] at HK
 go_wp2_with (first|fail)
 refine(HN_.out _ _ _ (HW.out.at HK.out)).mono ?_
 intro e w1 hq
 rcases hq.split with ⟨h1,rfl,hg⟩|⟨b,r2,h1,rfl,hk⟩
 ·have HG:=zH (grown_thru (HW.out.grown HK.out) hg);have HN:=zH (HP.out.trans (Snp.bnd_none h1));clear hg h1 hq;go_wp2_with fail;exact⟨rfl,Rp.no HN.out HG.out⟩
 obtain⟨W1,HW1,HK1⟩:=hk.join HW.out HK.out;replace HP:=zH (HP.out.trans (Snp.bnd_of h1));replace HW:=HW1;replace HK:=HK1;clear HW1 HK1 h1 hk hq;simp only[List.append_nil] at HK
 go_wp2_with (first|fail)
 refine(HN_.out _ _ _ (HW.out.at HK.out)).mono ?_
 intro e w1 hq
 rcases hq.split with ⟨h1,rfl,hg⟩|⟨c,r3,h1,rfl,hk⟩
 ·have HG:=zH (grown_thru (HW.out.grown HK.out) hg);have HN:=zH (HP.out.trans (Snp.bnd_none h1));clear hg h1 hq;go_wp2_with fail;exact⟨rfl,Rp.no HN.out HG.out⟩
 obtain⟨W1,HW1,HK1⟩:=hk.join HW.out HK.out;replace HP:=zH (HP.out.trans (Snp.bnd_of h1));replace HW:=HW1;replace HK:=HK1;clear HW1 HK1 h1 hk hq;simp only[List.append_nil] at HK
 go_wp2_with (first|fail)
 refine(HF.out _ _ _ (HW.out.at HK.out)).mono ?_
 intro e w1 hq
 rcases hq.split with ⟨h1,rfl,hg⟩|⟨d,r4,h1,rfl,hk⟩
 ·have HG:=zH (grown_thru (HW.out.grown HK.out) hg);have HN:=zH (HP.out.trans (Snp.bnd_none h1));clear hg h1 hq;go_wp2_with fail;exact⟨rfl,Rp.no HN.out HG.out⟩
 obtain⟨W1,HW1,HK1⟩:=hk.join HW.out HK.out;replace HP:=zH (HP.out.trans (Snp.bnd_of h1));replace HW:=HW1;replace HK:=HK1;clear HW1 HK1 h1 hk hq;simp only[List.append_nil] at HK
 go_wp2_with (first|fail)
 refine(HN_.out _ _ _ (HW.out.at HK.out)).mono ?_
 intro e w1 hq
 rcases hq.split with ⟨h1,rfl,hg⟩|⟨x,r5,h1,rfl,hk⟩
 ·have HG:=zH (grown_thru (HW.out.grown HK.out) hg);have HN:=zH (HP.out.trans (Snp.bnd_none h1));clear hg h1 hq;go_wp2_with fail;exact⟨rfl,Rp.no HN.out HG.out⟩
 obtain⟨W1,HW1,HK1⟩:=hk.join HW.out HK.out;replace HP:=zH (HP.out.trans (Snp.bnd_of h1));replace HW:=HW1;replace HK:=HK1;clear HW1 HK1 h1 hk hq;simp only[List.append_nil] at HK
 go_wp2_with (first|fail)
 refine(HV.out _ _ _ (HW.out.at HK.out)).mono ?_
 intro e w1 hq
 rcases hq.split with ⟨h1,rfl,hg⟩|⟨v,r6,h1,rfl,hk⟩
 ·have HG:=zH (grown_thru (HW.out.grown HK.out) hg);have HN:=zH (HP.out.trans (Snp.bnd_none h1));clear hg h1 hq;go_wp2_with fail;exact⟨rfl,Rp.no HN.out HG.out⟩
 obtain⟨W1,HW1,HK1⟩:=hk.join HW.out HK.out;replace HP:=zH (HP.out.trans (Snp.bnd_of h1));replace HW:=HW1;replace HK:=HK1;clear HW1 HK1 h1 hk hq;simp only[List.append_nil] at HK
 unfold vv
 go_wp2_with (first|(refine wpList_sse (u:=⟨a,b,c,d,⟨x,v⟩⟩) HK 0 rfl _ _ rfl rfl rfl rfl ?_;intro _ HK';simp only[List.set] at HK';replace HK:=HK';clear HK'))
 exact ret_se Tryz.results175 rfl rfl (HK.out.blk 0 rfl) (Rp.yes (x:=(⟨a,b,c,d,⟨x,v⟩⟩:Ses.S)) HP.out (Rok.mk HW.out HK.out))
end
section
namespace Snp
def Eats{α:Type}(p:P α):Prop:=∀l x r,p l=some (x,r)→r.length<l.length
def Cuts{α:Type}(p:P α):Prop:=∀l x r,p l=some (x,r)→r.length≤l.length
theorem Eats.cuts{α:Type}{p:P α}(h:Eats p):Cuts p:=fun l x r e=>Nat.le_of_lt (h l x r e)
theorem ret_cuts{α:Type}(a:α):Cuts (ret a):=fun l x r e=>by
 obtain⟨_,rfl⟩:=ret_some e
 exact Nat.le_refl _
theorem none_cuts{α:Type}:Cuts (fun _=>none:P α):=fun l x r e=>by cases e
theorem bnd_eats{α β:Type}{p:P α}{f:α→P β}(hp:Eats p)(hf:∀a,Cuts (f a)):Eats (bnd p f):=fun l x r e=>by
 obtain⟨a,q,h1,h2⟩:=bnd_some e
 exact Nat.lt_of_le_of_lt (hf a q x r h2) (hp l a q h1)
theorem bnd_cuts{α β:Type}{p:P α}{f:α→P β}(hp:Cuts p)(hf:∀a,Cuts (f a)):Cuts (bnd p f):=fun l x r e=>by
 obtain⟨a,q,h1,h2⟩:=bnd_some e
 exact Nat.le_trans (hf a q x r h2) (hp l a q h1)
theorem num_eats:Eats num:=fun l x r h=>by
 match l,h with
 | y::t,h=>
  have h:(if y.k=0 then some (y.n,t) else none)=some (x,r):=h
  split at h
  ·cases h;exact Nat.lt_succ_self _
  ·cases h
theorem txt_eats:Eats txt:=fun l x r h=>by
 match l,h with
 | y::t,h=>
  have h:(if y.k=1 then some (y.s,t) else none)=some (x,r):=h
  split at h
  ·cases h;exact Nat.lt_succ_self _
  ·cases h
theorem val_eats:Eats val:=fun l x r h=>by
 unfold val at h
 split at h
 ·next g=>
  cases h
  rw[List.length_drop]
  have h1:0<(Val.items (Val.take l)).length:=by unfold Val.items;simp
  omega
 ·cases h
theorem prP_eats:Eats prP:=bnd_eats txt_eats fun _=>bnd_cuts val_eats.cuts fun _=>ret_cuts _
theorem rfP_eats:Eats rfP:=bnd_eats num_eats fun _=>bnd_cuts num_eats.cuts fun _=>bnd_cuts num_eats.cuts fun _=>ret_cuts _
theorem bit_cuts:Cuts bit:=bnd_cuts num_eats.cuts fun _=>ret_cuts _
theorem mtP_cuts:Cuts mtP:=bnd_cuts num_eats.cuts fun _=>bnd_cuts bit_cuts fun _=>bnd_cuts bit_cuts fun _=>bnd_cuts bit_cuts fun _=>ret_cuts _
theorem rep_cuts{α:Type}{p:P α}(hp:Cuts p):∀n,Cuts (rep p n)
 | 0=>ret_cuts _
 | n+1=>bnd_cuts hp fun _=>bnd_cuts (rep_cuts hp n) fun _=>ret_cuts _
theorem lst_cuts{α:Type}{c:Bool}{m:Int}{p:P α}(hp:Cuts p):Cuts (lst c m p):=bnd_cuts num_eats.cuts fun n=>by
 split
 ·exact none_cuts
 ·exact rep_cuts hp _
theorem obP_eats(c:Bool):Eats (obP c):=bnd_eats txt_eats fun _=>bnd_cuts num_eats.cuts fun _=>bnd_cuts num_eats.cuts fun _=>bnd_cuts num_eats.cuts fun _=>bnd_cuts (lst_cuts prP_eats.cuts) fun _=>bnd_cuts (lst_cuts val_eats.cuts) fun _=>bnd_cuts (lst_cuts rfP_eats.cuts) fun _=>bnd_cuts mtP_cuts fun _=>ret_cuts _
theorem bnd_nil{α:Type}(q:P (List α))(l:Its):bnd q (fun ys=>ret ([]++ys)) l=q l:=by
 unfold bnd
 cases h:q l with
 | none=>rfl
 | some z=>rfl
theorem rep_step{α:Type}(p:P α)(m:Nat)(xs:List α)(l:Its):bnd (rep p (m+1)) (fun ys=>ret (xs++ys)) l=bnd p (fun x=>bnd (rep p m) (fun ys=>ret ((xs++[x])++ys))) l:=by
 show bnd (bnd p fun x=>bnd (rep p m) fun l=>ret (x::l)) (fun ys=>ret (xs++ys)) l=_
 cases h:p l with
 | none=>unfold bnd;simp only[h]
 | some z=>
  obtain⟨x,r⟩:=z
  cases h2:rep p m r with
  | none=>unfold bnd;simp only[h,h2]
  | some z2=>
   obtain⟨ys,r2⟩:=z2
   unfold bnd
   simp only[h,h2,ret]
   simp
theorem rep_done{α:Type}(p:P α)(xs:List α)(l:Its):bnd (rep p 0) (fun ys=>ret (xs++ys)) l=some (xs,l):=by
 show some (xs++[],l)=_
 rw[List.append_nil]
theorem lst_neg{α:Type}{c:Bool}{m n:Int}{p:P α}{l r:Its}(h:lst c m p l=(fun n=>if n<0∨(c=true∧m<n) then fun _=>none else rep p n.toNat) n r)(hn:n<0):lst c m p l=none:=by
 rw[h]
 show(if n<0∨(c=true∧m<n) then fun _=>none else rep p n.toNat) r=none
 rw[if_pos (.inl hn)]
theorem lst_pos{α:Type}{m:Int}{N:Nat}{p:P α}{l r:Its}(h:lst false m p l=(fun n=>if n<0∨(false=true∧m<n) then fun _=>none else rep p n.toNat) (N:Int) r):lst false m p l=bnd (rep p (N-0)) (fun ys=>ret ([]++ys)) r:=by
 rw[h,bnd_nil]
 show(if (N:Int)<0∨(false=true∧m<N) then fun _=>none else rep p (N:Int).toNat) r=_
 rw[if_neg (fun q=>q.elim (fun q=>by omega) fun q=>by cases q.1)]
 rfl
end Snp
end
end Go.Proofs.YtieoeendnccafaaGreat
