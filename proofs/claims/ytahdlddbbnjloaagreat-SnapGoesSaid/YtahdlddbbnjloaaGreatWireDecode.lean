/- What wire.Decode returns: the items that bytes are, in a slice of the call's own, or which error. No condition but those named. -/
import Derived.Test.YtahdlddbbnjloaaGreatNBB
set_option linter.unusedSimpArgs false
set_option linter.unusedVariables false
set_option maxRecDepth 100000
set_option maxHeartbeats 25600000
open Go.RowKit
namespace Go.Proofs.YtahdlddbbnjloaaGreat
open _root_.Go.Proofs.Tryz
section
theorem za(a b:Nat)(u v:Value)(w:World)(ha:w.cell? ⟨a,0,none⟩=some u)(hb:w.cell? ⟨b,0,none⟩=some v)(fa:w.frozen? ⟨a,0,none⟩=false)(fb:w.frozen? ⟨b,0,none⟩=false)(hne:a≠b):
  CallsD prog 33 #[.pointer (some ⟨a,0,none⟩),.pointer (some ⟨b,0,none⟩)] (.panicking Bv) w fun e u' w'=>
   e=.returned (.tuple #[])∧u'=.panicking [{ v:=.iface 23 (.int .i64 3),recovered:=true }]∧w'=(w.setCell ⟨a,0,none⟩ (.slice none 0 0)).setCell ⟨b,0,none⟩ (.int .i64 3):=by
 unfold Bv
 have h2:(w.setCell ⟨a,0,none⟩ (.slice none 0 0)).cell? ⟨b,0,none⟩=some v:=by
  rw[World.cell?_setCell_other _ _ _ _ (fun e=>hne (by injection e))];exact hb
 have h3:(w.setCell ⟨a,0,none⟩ (.slice none 0 0)).frozen? ⟨b,0,none⟩=false:=by rw[World.frozen?_setCell];exact fb
 refine callsD_of_wpS func33 rfl fun c₀ cs hu=>?_
 apply wpS_seq;apply wpS_region;simp[wpOpsS,go_sem,recoverD,hu,ntmps33,Exit.thenS];refine wpS_cond (t:=true) (by simp[Act.eval,Array.replicate]) ?_;simp only[if_true];apply wpS_region;simp[wpOpsS,go_sem,ha,fa,h2,h3,bodyPostS,results,results33]
theorem MC(a b:Nat){w:World}:
  CallsD prog 33 #[.pointer (some ⟨a,0,none⟩),.pointer (some ⟨b,0,none⟩)] .returning w fun e u' w'=>e=.returned (.tuple #[])∧u'=.returning∧w'=w:=by
 refine callsD_of_wpS func33 rfl fun c₀ cs hu=>?_
 apply wpS_seq;apply wpS_region;simp[wpOpsS,go_sem,recoverD,hu,ntmps33,Exit.thenS];refine wpS_cond (t:=false) (by simp[Act.eval,Array.replicate]) ?_;simp only[Bool.false_eq_true,if_false];refine wpS_of_wp (wp_skip ?_);cases c₀
 simp_all [bodyPostS,results,results33]
def flat(l:List aF.It):List Value:=l.flatMap fun x=>[.int .i64 x.k,.int .i64 x.n,.string x.s]
theorem Rh(l:List aF.It)(x:aF.It):flat (l++[x])=flat l++[.int .i64 x.k,.int .i64 x.n,.string x.s]:=by simp[flat]
theorem ig(l:List aF.It):(flat l).length=l.length*3:=by
 induction l with
 | nil=>rfl
 | cons x l ih=>simp[flat] at ih ⊢;omega
theorem LK:(prog.info? 81).map (fun i=>(i.zero,i.size,i.bytes))=some (some (Value.agg #[.int .i64 0,.int .i64 0,.string ⟨#[]⟩]),3,32):=by kernel_rfl
def Its(base:Nat)(w:World)(v:Value)(l:List aF.It):Prop:=w.ownsRow base 81 3 v l.length (flat l)
def DZ(w:World)(l:List aF.It)(n:Int)(e:Ending)(w':World):Prop:=∃v,e=.returned (.tuple #[v,.int .i64 n])∧Its w.heap.size w' v l∧Below w.heap.size w w'
structure Mid(s:ByteArray)(w:World)(v:Value)(xs:List aF.It)(t:List UInt8)(wr:World):Prop where
 l:wr.heap[w.heap.size]?=some (.cells #[v] 53 (0,0))
 e:wr.heap[w.heap.size+1]?=some (.cells #[.int .i64 0] 23 (0,0))
 r:Rd wr (w.heap.size+1+1) (txt t)
 own:Its w.heap.size wr v xs
 below:Below w.heap.size w wr
 dec:aF.dec s.data.toList=(aF.dec t).map (xs ++ ·)
 len:xs.length+t.length≤s.size
theorem Mid.start(s:ByteArray)(w:World):Mid s w (.slice none 0 0) [] s.data.toList (((w.alloc (.cells #[.slice none 0 0] 53)).alloc (.cells #[.int .i64 0] 23)).alloc (.cells #[.string s] 91)):=by
 have h1:=heap_alloc_new w (.cells #[.slice none 0 0] 53);have h2:=heap_alloc_new (w.alloc (.cells #[.slice none 0 0] 53)) (.cells #[.int .i64 0] 23);have h3:=heap_alloc_new ((w.alloc (.cells #[.slice none 0 0] 53)).alloc (.cells #[.int .i64 0] 23)) (.cells #[.string s] 91);have z1:(w.alloc (.cells #[.slice none 0 0] 53)).heap.size=w.heap.size+1:=by simp
 have z2:((w.alloc (.cells #[.slice none 0 0] 53)).alloc (.cells #[.int .i64 0] 23)).heap.size=w.heap.size+1+1:=by simp
 refine⟨?_,?_,?_,World.ownsRow_nil _ _ _ _,(((Below.refl _ _).alloc (Nat.le_refl _) _).alloc (by simp) _).alloc (by simp;omega) _,?_,?_⟩
 ·rw[Below.heap_alloc _ _ _ (by rw[z2];omega),Below.heap_alloc _ _ _ (by rw[z1];omega)];exact h1
 ·rw[Below.heap_alloc _ _ _ (by rw[z2];omega),← z1];exact h2
 ·rw[← z2];exact h3
 ·simp
 ·simp
structure MN(s:ByteArray)(w:World)(v v2:Value)(xs:List aF.It)(t:List UInt8)(wr:World):Prop where
 l:wr.heap[w.heap.size]?=some (.cells #[v] 53 (0,0))
 e:wr.heap[w.heap.size+1]?=some (.cells #[.int .i64 0] 23 (0,0))
 r:Rd wr (w.heap.size+1+1) (txt t)
 own:Its w.heap.size wr v2 xs
 below:Below w.heap.size w wr
 dec:aF.dec s.data.toList=(aF.dec t).map (xs ++ ·)
 len:xs.length+t.length≤s.size
theorem MN.cell{s:ByteArray}{w wr:World}{v v2:Value}{xs:List aF.It}{t:List UInt8}(h:MN s w v v2 xs t wr):wr.cell? ⟨w.heap.size,0,none⟩=some v:=cell_of_row wr w.heap.size 0 _ _ (0,0) h.l
theorem MN.frozen{s:ByteArray}{w wr:World}{v v2:Value}{xs:List aF.It}{t:List UInt8}(h:MN s w v v2 xs t wr):wr.frozen? ⟨w.heap.size,0,none⟩=false:=by simp[World.frozen?,h.l]
structure abX(s:ByteArray)(w:World)(v:Value)(xs:List aF.It)(x:aF.It)(t:List UInt8)(wr:World):Prop where
 l:wr.heap[w.heap.size]?=some (.cells #[v] 53 (0,0))
 e:wr.heap[w.heap.size+1]?=some (.cells #[.int .i64 0] 23 (0,0))
 r:Rd wr (w.heap.size+1+1) (txt t)
 own:Its w.heap.size wr v xs
 below:Below w.heap.size w wr
 dec:aF.dec s.data.toList=(aF.dec t).map ((xs++[x]) ++ ·)
 len:xs.length+1+t.length≤s.size
theorem LY(w:World)(g i:Nat)(v:Value):w.grownBy (w.setCell ⟨g,i,none⟩ v) (some g):=
 ⟨rfl,rfl,rfl,by simp[World.setCell],fun k _ hne=>Below.heap_setCell w ⟨g,i,none⟩ v k (by rintro rfl;exact hne rfl)⟩
theorem vw{base:Nat}{w:World}{v:Value}{xs:List aF.It}(h:Its base w v xs){g:Nat}{cs:Array Value}{t':TypeId}{fr:Nat×Nat}(hg:w.heap[g]?=some (.cells cs t' fr))(hn:t'≠81:=by decide):some g≠v.ownBlock:=by
 intro e
 rcases h.2 with ⟨rfl,_⟩|⟨g',cap,cur,rfl,_,hgg,_⟩
 ·simp[Value.ownBlock] at e
 ·simp[Value.ownBlock] at e
  subst e;rw[hgg] at hg;injection hg with hg;injection hg with _ h2 _;exact hn h2.symm
theorem Fa{base:Nat}{w:World}{v:Value}{xs:List aF.It}(h:Its base w v xs){g:Nat}(hne:some g≠v.ownBlock){i:Nat}{u:Value}:Its base (w.setCell ⟨g,i,none⟩ u) v xs:=
 World.ownsRow.kept h (LY w g i u) (.inr fun e=>hne e.symm)
theorem Mid.took{s:ByteArray}{w wr w1:World}{v:Value}{xs:List aF.It}{s' t:List UInt8}{x:aF.It}(HM:Mid s w v xs s' wr)(hn:aF.next s'=some (x,t))(hl:t.length<s'.length)(hr:Rd w1 (w.heap.size+1+1) (txt t))(hg:wr.drew.grownBy w1 (some (w.heap.size+1+1))):abX s w v xs x t w1:=by
 have hz:=HM.r.lt;refine⟨(hg.block w.heap.size (by show _<wr.heap.size;omega) (by intro e;injection e;omega)).trans HM.l,(hg.block (w.heap.size+1) (by show _<wr.heap.size;omega) (by intro e;injection e;omega)).trans HM.e,hr,?_,?_,?_,?_⟩
 ·exact World.ownsRow.kept (w:=wr.drew) HM.own hg (.inr fun e=>absurd e.symm (vw HM.own (t':=91) HM.r))
 ·exact HM.below.trans ⟨hg.os,hg.tape,hg.output,hg.size,fun k hk=>hg.block k (by show _<wr.heap.size;omega) (by intro e;injection e;omega)⟩
 ·rw[HM.dec,aF.BM hn hl,Option.map_map]
  congr 1
  funext l
  simp
 ·have:=HM.len;omega
theorem abX.next{s:ByteArray}{w w1 w2:World}{v v2:Value}{xs:List aF.It}{t:List UInt8}{k n:Int}{xs':ByteArray}{o:Obj}(HM:abX s w v xs ⟨k,n,xs'⟩ t w1)
  (hown:w2.ownsRow w.heap.size 81 3 v2 (xs.length+1) (flat xs++[.int .i64 k,.int .i64 n,.string xs'])) (hg:(w1.alloc o).grownBy w2 v.ownBlock):MN s w v v2 (xs++[⟨k,n,xs'⟩]) t w2:=by
 have far:∀(g:Nat) (cs:Array Value) (t':TypeId) (fr:Nat×Nat),t'≠81→w1.heap[g]?=some (.cells cs t' fr)→w2.heap[g]?=some (.cells cs t' fr):=fun g cs t' fr hn h=>by
  have hlt:=(Array.getElem?_eq_some_iff.1 h).1;rw[hg.block g (by simp;omega) (vw HM.own (hn:=hn) h),Below.heap_alloc w1 o g hlt];exact h
 refine⟨far _ _ _ _ (by decide) HM.l,far _ _ _ _ (by decide) HM.e,far _ _ _ _ (by decide) HM.r,?_,?_,HM.dec,?_⟩
 ·unfold Its
  rw[Rh,List.length_append];exact hown
 ·exact(HM.below.alloc HM.below.size o).grown hg (by have:=HM.below.size;simp;omega) (fun b hb=>(World.ownsRow.lt HM.own b hb).1)
 ·have:=HM.len
  simp only[List.length_append,List.length_singleton];omega
theorem Mk(s:ByteArray)(w wr w1:World)(v:Value)(xs:List aF.It)(t:List UInt8)(HM:Mid s w v xs t wr)(a:Act)(hg:wr.drew.grownBy w1 (some (w.heap.size+1+1)))
  (hd:a.defers=[{ target:=.fn (.func 33) #[.pointer (some ⟨w.heap.size,0,none⟩),.pointer (some ⟨w.heap.size+1,0,none⟩)],args:=#[] }])
  (h2:a.tmps.getD 2 undef=.pointer (some ⟨w.heap.size,0,none⟩)) (h3:a.tmps.getD 3 undef=.pointer (some ⟨w.heap.size+1,0,none⟩)) :
  bodyPostD prog f12 (DZ w [] 3) (Exit.panic Bv) a w1:=by
 have hz:=HM.r.lt;have g1:=(hg.block w.heap.size (by show _<wr.heap.size;omega) (by intro e;injection e;omega)).trans HM.l;have g2:=(hg.block (w.heap.size+1) (by show _<wr.heap.size;omega) (by intro e;injection e;omega)).trans HM.e;have c1:=cell_of_row w1 w.heap.size 0 _ _ (0,0) g1;have c2:=cell_of_row w1 (w.heap.size+1) 0 _ _ (0,0) g2;have f1:w1.frozen? ⟨w.heap.size,0,none⟩=false:=by simp[World.frozen?,g1]
 have f2:w1.frozen? ⟨w.heap.size+1,0,none⟩=false:=by simp[World.frozen?,g2]
 have hb:Below w.heap.size w ((w1.setCell ⟨w.heap.size,0,none⟩ (.slice none 0 0)).setCell ⟨w.heap.size+1,0,none⟩ (.int .i64 3)):=
  ((HM.below.trans ⟨hg.os,hg.tape,hg.output,hg.size,fun k hk=>hg.block k (by show _<wr.heap.size;omega) (by intro e;injection e;omega)⟩).setCell (Nat.le_refl _) _).setCell (by simp) _
 have k1:((w1.setCell ⟨w.heap.size,0,none⟩ (.slice none 0 0)).setCell ⟨w.heap.size+1,0,none⟩ (.int .i64 3)).cell? ⟨w.heap.size,0,none⟩=some (.slice none 0 0):=by
  exact acO
 have k2:((w1.setCell ⟨w.heap.size,0,none⟩ (.slice none 0 0)).setCell ⟨w.heap.size+1,0,none⟩ (.int .i64 3)).cell? ⟨w.heap.size+1,0,none⟩=some (.int .i64 3):=by
  exact ahf
 have fin:DZ w [] 3 (.returned (.tuple #[.slice none 0 0,.int .i64 3])) ((w1.setCell ⟨w.heap.size,0,none⟩ (.slice none 0 0)).setCell ⟨w.heap.size+1,0,none⟩ (.int .i64 3)):=⟨_,rfl,World.ownsRow_nil _ _ _ _,hb⟩;obtain⟨tmps,defers⟩:=a;simp only at hd h2 h3;subst hd
 show Leaves _ _ _ _ _ _ _
 refine leaves_cons (f:=33) (args:=#[.pointer (some ⟨w.heap.size,0,none⟩),.pointer (some ⟨w.heap.size+1,0,none⟩)]) (by simp) (by simp[go_sem]) ?_;refine(za w.heap.size (w.heap.size+1) v (.int .i64 0) w1 c1 c2 f1 f2 (by omega)).mono ?_;rintro e u' w'' ⟨rfl,rfl,rfl⟩;have FIN:=zH fin;clear fin hb g1 g2 c1 c2 f1 f2 HM hg;generalize ((w1.setCell ⟨w.heap.size,0,none⟩ (.slice none 0 0)).setCell ⟨w.heap.size+1,0,none⟩ (.int .i64 3))=w3 at *
 exact ahx
theorem MN.stored{s:ByteArray}{w wr:World}{v v2:Value}{xs:List aF.It}{t:List UInt8}(h:MN s w v v2 xs t wr):Mid s w v2 xs t (wr.setCell ⟨w.heap.size,0,none⟩ v2):=by
 refine⟨?_,?_,?_,?_,h.below.setCell (Nat.le_refl _) _,h.dec,h.len⟩
 ·have:=h.l
  simp[World.setCell,Array.getElem?_modify,this]
 ·rw[Below.heap_setCell _ ⟨w.heap.size,0,none⟩ _ _ (by show w.heap.size+1≠w.heap.size;omega)];exact h.e
 ·unfold Rd;rw[Below.heap_setCell _ ⟨w.heap.size,0,none⟩ _ _ (by show w.heap.size+1+1≠w.heap.size;omega)];exact h.r
 ·exact Fa h.own (vw h.own h.l)
theorem Its.shape{base:Nat}{w:World}{v:Value}{xs:List aF.It}(h:Its base w v xs):∃A c,v=.slice A xs.length c:=by
 rcases h.2 with ⟨rfl,h0⟩|⟨g,cap,cur,rfl,_⟩
 ·exact⟨none,0,by rw[h0]⟩
 ·exact⟨_,_,rfl⟩
theorem Xb(s:ByteArray)(w wr:World){v:Value}(xs:List aF.It)(HM:Mid s w v xs [] wr)(a:Act)
  (hd:a.defers=[{ target:=.fn (.func 33) #[.pointer (some ⟨w.heap.size,0,none⟩),.pointer (some ⟨w.heap.size+1,0,none⟩)],args:=#[] }])
  (h2:a.tmps.getD 2 undef=.pointer (some ⟨w.heap.size,0,none⟩)) (h3:a.tmps.getD 3 undef=.pointer (some ⟨w.heap.size+1,0,none⟩)) :
  bodyPostD prog f12 (DZ w xs 0) Exit.ret a ((wr.setCell ⟨w.heap.size,0,none⟩ v).setCell ⟨w.heap.size+1,0,none⟩ (.int .i64 0)):=by
 have c1:=cell_of_row wr w.heap.size 0 _ _ (0,0) HM.l;have c2:=cell_of_row wr (w.heap.size+1) 0 _ _ (0,0) HM.e
 have hb:Below w.heap.size w ((wr.setCell ⟨w.heap.size,0,none⟩ v).setCell ⟨w.heap.size+1,0,none⟩ (.int .i64 0)):=
  (HM.below.setCell (Nat.le_refl _) _).setCell (by simp) _
 have k1:((wr.setCell ⟨w.heap.size,0,none⟩ v).setCell ⟨w.heap.size+1,0,none⟩ (.int .i64 0)).cell? ⟨w.heap.size,0,none⟩=some v:=by
  exact acO
 have k2:((wr.setCell ⟨w.heap.size,0,none⟩ v).setCell ⟨w.heap.size+1,0,none⟩ (.int .i64 0)).cell? ⟨w.heap.size+1,0,none⟩=some (.int .i64 0):=by
  exact ahf
 have hown:Its w.heap.size ((wr.setCell ⟨w.heap.size,0,none⟩ v).setCell ⟨w.heap.size+1,0,none⟩ (.int .i64 0)) v xs:=
  Fa (Fa HM.own (vw HM.own HM.l)) (vw HM.own HM.e)
 have fin:DZ w xs 0 (.returned (.tuple #[v,.int .i64 0])) ((wr.setCell ⟨w.heap.size,0,none⟩ v).setCell ⟨w.heap.size+1,0,none⟩ (.int .i64 0)):=⟨_,rfl,hown,hb⟩;obtain⟨tmps,defers⟩:=a;simp only at hd h2 h3;subst hd
 show Leaves _ _ _ _ _ _ _
 refine leaves_cons (f:=33) (args:=#[.pointer (some ⟨w.heap.size,0,none⟩),.pointer (some ⟨w.heap.size+1,0,none⟩)]) (by simp) (by simp[go_sem]) ?_;refine(MC w.heap.size (w.heap.size+1)).mono ?_;rintro e u' w'' ⟨rfl,rfl,rfl⟩;have FIN:=zH fin;clear fin hb c1 c2 HM hown;generalize ((wr.setCell ⟨w.heap.size,0,none⟩ v).setCell ⟨w.heap.size+1,0,none⟩ (.int .i64 0))=w3 at *
 exact ahx
theorem Ml(s:ByteArray)(w:World)(hs:s.size≤140737488351232):
  Calls prog 12 #[.string s] w (DZ w (aF.D s).1 (aF.D s).2):=by
 have hmf:∀(fn:Fn) (first cap:Array Value) (w:World),(Instr.makeFunc fn first cap).run prog w=.ok (.func fn first cap) w:=fun _ _ _ _=>rfl
 by_cases hlong:16384<s.size
 ·have hD:aF.D s=([],2):=by unfold aF.D;rw[if_pos hlong]
  rw[hD];clear hD;go_enter_defers func12,ntmps12;go_wp2
  have fin:DZ w [] 2 (.returned (.tuple #[.slice none 0 0,.int .i64 2])) ((w.alloc (.cells #[.slice none 0 0] 53)).alloc (.cells #[.int .i64 2] 23)):=
   ⟨_,rfl,World.ownsRow_nil _ _ _ _,((Below.refl _ _).alloc (Nat.le_refl _) _).alloc (by simp) _⟩
  have FIN:=zH fin;clear fin;simp[bodyPostD,Leaves,results,results12,go_sem];exact FIN.out
 ·have HM:=zH (Mid.start s w)
  have hs2:s.size≤16384:=by omega
  have hp:decide (16384<(s.size:Int))=false:=by rw[decide_eq_false_iff_not];omega
  clear hs hlong;go_enter_defers func12,ntmps12;go_wp2_with fail;go_loopg [12] s.size (fun m _ wr=>∃v xs t,m=t.length∧Hid (Mid s w v xs t wr))
  case atStart=>exact⟨_,_,_,by simp,HM⟩
  case round=>
   clear HM;obtain⟨v,xs,t,rfl,HM⟩:=hrel;have cl:wr.cell? ⟨w.heap.size,0,none⟩=some v:=cell_of_row wr w.heap.size 0 _ _ (0,0) HM.out.l;have cr:=HM.out.r.cell
   cases t with
   | nil=>
    obtain⟨A,n,hv⟩:=Its.shape HM.out.own;subst hv;have fl:wr.frozen? ⟨w.heap.size,0,none⟩=false:=by simp[World.frozen?,HM.out.l]
    have ce:wr.cell? ⟨w.heap.size+1,0,none⟩=some (.int .i64 0):=cell_of_row wr (w.heap.size+1) 0 _ _ (0,0) HM.out.e;have fe:wr.frozen? ⟨w.heap.size+1,0,none⟩=false:=by simp[World.frozen?,HM.out.e]
    have HP:=zH (fun(a:Act)=>Xb s w wr xs HM.out a)
    have HD:Hid (aF.D s=(xs,0)):=zH (by
     unfold aF.D
     rw[if_neg (by omega),HM.out.dec,aF.Fv];simp)
    change wr.cell? ⟨w.heap.size+1+1,0,none⟩=some (.string ⟨#[]⟩) at cr;go_wp2_with fail;rw[HD.out];exact HP.out _ rfl rfl rfl
   | cons c r=>
    have hne:(txt (c::r)).toList.isEmpty=false:=by rw[ByteArray.toList_eq];rfl
    have hne2:¬(txt (c::r)).toList=[]:=by rw[ByteArray.toList_eq];simp[txt]
    go_wp2_with fail
    cases hn:aF.next (c::r) with
    | none=>
     have HN:=zH (QO (w.heap.size+1+1) c r wr.drew HM.out.r (by have:=HM.out.len;omega) hn)
     have HD:Hid (aF.D s=([],3)):=zH (by
      unfold aF.D
      rw[if_neg (by omega),HM.out.dec,aF.Ja (by simp) hn];rfl)
     rw[HD.out];have HP:=zH (fun(a:Act) (w1:World)=>Mk s w wr w1 v xs (c::r) HM.out a);refine wp_region_any (by kernel_rfl) ?_;change wpAny _ _ _ _ _ _ _ (World.drew _);refine wpAny_ready (rs:=[0,1]) (by kernel_rfl) (by simp) ?_;refine AllReady.cons rfl (fun K hK=>?_) (AllReady.cons rfl (fun K hK=>?_) AllReady.nil)
     ·go_simp
      refine hK _ _ ?_;clear hK K;refine wpAny_ready (rs:=[1]) (by kernel_rfl) (by simp) ?_;refine AllReady.cons rfl (fun K hK=>?_) AllReady.nil;go_simp;exact aht
     ·go_simp
      refine hK _ _ ?_;clear hK K;refine wpAny_ready (rs:=[0,2]) (by kernel_rfl) (by simp) ?_;refine AllReady.cons rfl (fun K hK=>?_) (AllReady.cons rfl (fun K hK=>?_) AllReady.nil)
      ·go_simp
       exact aht
      ·go_simp
       refine(HN.out).mono ?_;rintro e w1 ⟨rfl,hg⟩;exact HP.out _ w1 hg rfl rfl rfl
    | some p=>
     obtain⟨x,t⟩:=p;have hnx:=aF.yJ hn (by have:=HM.out.len;omega)
     have HN:Hid (Calls prog 34 #[.pointer (some ⟨w.heap.size+1+1,0,none⟩)] wr.drew fun e w1=>e=.returned (.agg #[.int .i64 x.k,.int .i64 x.n,.string x.s])∧w1.cell? ⟨w.heap.size,0,none⟩=some v∧Hid (abX s w v xs x t w1)∧w.heap.size<w1.heap.size∧xs.length+1≤16384):=zH (by
      refine(QN (w.heap.size+1+1) (c::r) t x wr.drew HM.out.r (by have:=HM.out.len;omega) hn).mono ?_;rintro e w1 ⟨he,hr1,hg1⟩;have hm:=Mid.took HM.out hn hnx.2.2 hr1 hg1
      exact⟨he,cell_of_row w1 w.heap.size 0 _ _ (0,0) hm.l,zH hm,(Array.getElem?_eq_some_iff.1 hm.l).1,by have:=HM.out.len;simp at this;omega⟩)
     obtain⟨i0,hi,hz0,hz1,hz2⟩:=info_parts LK;have hlt:t.length<(c::r).length:=hnx.2.2;clear hnx hn HM cr hne hne2;obtain⟨xk,xn,xs'⟩:=x;simp only at HN;refine wp_region_noPanic ?_
     go_region_law (first
      | (go_simp;go_at_call 34;refine(HN.out).mono ?_;rintro e w1 ⟨rfl,hc1,hm1,hb1,hn1⟩)
      | (refine qL _ (.tmp 17) (.tmp 20) 53 53 w.heap.size 81 i0 (.agg #[.int .i64 0,.int .i64 0,.string ⟨#[]⟩]) 3 32 underlying53 hi hz0 hz1 hz2 rfl v xs.length (flat xs) (hm1.out.own.alloc _) 1 [.int .i64 xk,.int .i64 xn,.string xs'] (.slice (some ⟨w1.heap.size,0,none⟩) 1 1) (Src.ofSlice _ underlying53 _ _ _ _ (by rfl) (World.news_of_block (cs:=#[.int .i64 xk,.int .i64 xn,.string xs']) (t:=81) (fr:=(0,0)) (heap_alloc_new w1 _)) (by simp[Value.oneCell'])) (by simp;omega) ?_;intro v2 w2 hown hg2 _;obtain⟨gg,cap,hv2,_,_⟩:=hown.form (by omega);subst hv2;have hm2:=zH (hm1.out.next hown hg2);have hc2:=hm2.out.cell;have hf2:=hm2.out.frozen))
     all_goals
      have HMn:=zH hm2.out.stored;clear hm2 hc2 hf2 hown hg2 hm1 hc1;refine NoPanic.normal ?_;go_wp2_with fail;go_roundg t.length
      case measure=>exact hlt
      case rel=>exact⟨_,_,_,rfl,HMn⟩
end
end Go.Proofs.YtahdlddbbnjloaaGreat
