/- What a request is, way by way. No condition but those named. -/
import Derived.Test.YtieoeendnccafaaNTK
import Derived.Test.YtieoeendnccafaaNAJ
import Derived.Test.YtieoeendnccafaaNAL
import Derived.Test.YtieoeendnccafaaNAB
import Derived.Test.YtieoeendnccafaaNAP
import Derived.Test.YtieoeendnccafaaNAI
import Derived.Test.YtieoeendnccafaaNAF
import Derived.Deep.CutBlock
import Derived.Deep.DeepCutAuto
set_option linter.unusedSimpArgs false
set_option linter.unusedVariables false
set_option maxRecDepth 100000
set_option maxHeartbeats 25600000
namespace Go.Proofs.Ytieoeendnccafaa
section
open Go.RowKit
def pcA(f:Int→Nat):Array Value:=#[.int .i64 (f 0),.int .i64 (f 1),.int .i64 (f 2),.int .i64 (f 3),.int .i64 (f 4)]
def pcZ:Int→Nat:=fun _=>0
def pcU(f:Int→Nat)(c:Int)(v:Nat):Int→Nat:=fun d=>if d=c then v else f d
theorem info_pcz:(Try.prog.info? 62).map (fun i=>(i.zero,i.size,i.bytes))=some (some (Value.agg (pcA pcZ)),5,40):=by kernel_rfl
theorem info_pc:(Try.prog.info? 62).map (·.size)=some 5:=by kernel_rfl
theorem pc_at{c:Int}(hc:0≤c∧c<5)(f:Int→Nat):(pcA f)[c.toNat]?=some (.int .i64 (f c)):=by
 rcases Ses.cases5 hc with rfl|rfl|rfl|rfl|rfl<;>rfl
theorem pc_put{c:Int}(hc:0≤c∧c<5)(f:Int→Nat)(v:Nat):(pcA f).setIfInBounds c.toNat (.int .i64 v)=pcA (pcU f c v):=by
 rcases Ses.cases5 hc with rfl|rfl|rfl|rfl|rfl<;>kernel_rfl
section
variable {b0:Nat}{w0 w:World}{L:List (Nat×TypeId×Array Value)}{R:List RowE}{ops:Array Oper}{rest:List Oper}{o:Oper}{a:Act}{Q:Exit→Act→World→Prop}{K:Act→World→Prop}{E:Prop}{g:Nat}{f h2:Int→Nat}{c:Int}
theorem wpList_apc(HK:Hid (Kn b0 w0 w L R))(hgd:o.guard=none)(ho:o.op=.alloc 62)
  (h:∀w' g,Hid (Kn b0 w0 w' (L++[(g,62,pcA pcZ)]) R)→wpList Try.prog ops Q rest (a.put o.dst (.pointer (some ⟨g,0,none⟩))) w'):wpList Try.prog ops Q (o::rest) a w:=
 wpList_plain hgd fun _ hK=>kwp_made info_pcz HK ho fun w' g h1 _=>hK _ _ (h w' g h1)
theorem wpList_spc(HK:Hid (Kn b0 w0 w L R))(i:Nat)(hgd:o.guard=none)(x y:Operand)(ho:o.op=.store 62 x y)(hL:L[i]?=some (g,62,pcA f))(hx:a.eval x=.pointer (some ⟨g,0,none⟩))(hy:a.eval y=.agg (pcA h2))
  (h:∀w',Hid (Kn b0 w0 w' (L.set i (g,62,pcA h2)) R)→wpList Try.prog ops Q rest (a.put o.dst undef) w'):wpList Try.prog ops Q (o::rest) a w:=
 wpList_plain hgd fun _ hK=>kwp_ss HK _ x y ho i hL hx hy (by show 5≤5;decide) info_pc (by simp[pcA,Value.oneCell']) fun w' h1 _=>hK _ _ (h w' (by
  have e:putCells (pcA f) 0 (pcA h2).toList=pcA h2:=by rw[putCells_all (vs:=(pcA h2).toList) (cs:=pcA f) rfl,Array.toArray_toList]
  rw[e] at h1
  exact h1))
theorem wpList_sp1(HK:Hid (Kn b0 w0 w L R))(i:Nat)(hgd:o.guard=none)(hc:0≤c∧c<5){v:Nat}(x y:Operand)(ho:o.op=.store 3 x y)(hL:L[i]?=some (g,62,pcA f))(hx:a.eval x=.pointer (some ⟨g,c.toNat,none⟩))(hy:a.eval y=.int .i64 v)
  (h:∀w',Hid (Kn b0 w0 w' (L.set i (g,62,pcA (pcU f c v))) R)→wpList Try.prog ops Q rest (a.put o.dst undef) w'):wpList Try.prog ops Q (o::rest) a w:=
 wpList_plain hgd fun _ hK=>kwp_sc HK _ x y ho i hL hx hy rfl rfl (by show c.toNat<5;omega) (by kernel_rfl) fun w' h1 _=>hK _ _ (h w' (by rw[pc_put hc] at h1;exact h1))
theorem kpc(HK:Hid (Kn b0 w0 w L R))(i:Nat)(x:Operand)(ho:o.op=.load 62 x)(hL:L[i]?=some (g,62,pcA f))(hx:a.eval x=.pointer (some ⟨g,0,none⟩)):
  (execOp a.eval o).run Try.prog w=.ok (.value (.agg (pcA f))) w:=
 kexec_lw HK _ x ho i hL hx (pcA f) (fun j _=>by rw[Nat.zero_add]) Try.underlying62 rfl info_pc
theorem kpc1(HK:Hid (Kn b0 w0 w L R))(i:Nat)(hc:0≤c∧c<5)(x:Operand)(ho:o.op=.load 3 x)(hL:L[i]?=some (g,62,pcA f))(hx:a.eval x=.pointer (some ⟨g,c.toNat,none⟩)):
  (execOp a.eval o).run Try.prog w=.ok (.value (.int .i64 (f c))) w:=
 kexec_lc HK _ x ho i hL hx (pc_at hc f) Try.underlying3 rfl
theorem exec_ixp(hc:0≤c∧c<5)(x y:Operand)(ho:o.op=.indexAddr 62 x y)(hx:a.eval x=.pointer (some ⟨g,0,none⟩))(hy:a.eval y=.int .i64 c):
  (execOp a.eval o).run Try.prog w=.ok (.value (.pointer (some ⟨g,c.toNat,none⟩))) w:=by
 have h:(Instr.indexAt 62 (.pointer (some ⟨g,0,none⟩)) (.int .i64 c)).run Try.prog w=.ok (.pointer (some ⟨g,c.toNat,none⟩)) w:=by
  rcases Ses.cases5 hc with rfl|rfl|rfl|rfl|rfl<;>kernel_rfl
 unfold execOp
 simp only[ho,hx,hy,Sem.run_bind,Sem.run_pure,Result.andThen_ok,h]
theorem exec_bpz(ho:o.op=.build 62 #[]):(execOp a.eval o).run Try.prog w=.ok (.value (.agg (pcA pcZ))) w:=by
 have h:(Instr.build 62 #[]).run Try.prog w=.ok (.agg (pcA pcZ)) w:=by kernel_rfl
 unfold execOp
 simp only[ho,Sem.run_bind,Sem.run_pure,Result.andThen_ok,List.map_toArray,List.map_cons,List.map_nil,h]
theorem cells_in:Try.prog.cellsOf 3=1:=by kernel_rfl
theorem part_pc(f:Int→Nat)(w:World):(part 3 (pcA f) (0*1)).run Try.prog w=.ok (.int .i64 (f 0)) w∧(part 3 (pcA f) (1*1)).run Try.prog w=.ok (.int .i64 (f 1)) w∧(part 3 (pcA f) (2*1)).run Try.prog w=.ok (.int .i64 (f 2)) w∧(part 3 (pcA f) (3*1)).run Try.prog w=.ok (.int .i64 (f 3)) w∧(part 3 (pcA f) (4*1)).run Try.prog w=.ok (.int .i64 (f 4)) w:=by
 refine⟨?_,?_,?_,?_,?_⟩<;>kernel_rfl
theorem run_ieq(m n:Nat)(w:World):(Op.equalIn 9999 3 (.int .i64 m) (.int .i64 n)).run Try.prog w=.ok (decide (m=n)) w:=by
 have e:decide (m=n)=decide ((m:Int)=(n:Int)):=decide_eq_decide.2 ⟨fun h=>by rw[h],fun h=>by omega⟩
 rw[e]
 go_simp
 rw[Bool.eq_iff_iff]
 simp
theorem run_pceq(f h:Int→Nat)(w:World):(Op.equalIn 10000 62 (.agg (pcA f)) (.agg (pcA h))).run Try.prog w=.ok (decide (∀c∈([0,1,2,3,4]:List Int),f c=h c)) w:=by
 obtain⟨i,hi⟩:∃i,Try.prog.info? 3=some i:=Option.isSome_iff_exists.1 (by kernel_rfl)
 obtain⟨a0,a1,a2,a3,a4⟩:=part_pc f w
 obtain⟨b0,b1,b2,b3,b4⟩:=part_pc h w
 have e:decide (∀c∈([0,1,2,3,4]:List Int),f c=h c)=(decide (f 0=h 0)&&(decide (f 1=h 1)&&(decide (f 2=h 2)&&(decide (f 3=h 3)&&decide (f 4=h 4))))):=by
  rw[Bool.eq_iff_iff]
  simp
 rw[e,run_equalIn_array w 9999 _ _ Try.underlying62 hi,cells_in]
 simp only[List.range,List.range.loop,Op.eqItems,Sem.run_bind,a0,a1,a2,a3,a4,b0,b1,b2,b3,b4,run_ieq,Result.andThen_ok]
 by_cases e0:f 0=h 0
 case neg=>rw[decide_eq_false e0];rfl
 rw[decide_eq_true e0]
 by_cases e1:f 1=h 1
 case neg=>simp only[decide_eq_false e1,Sem.run_bind,Sem.run_pure,a1,a2,a3,a4,b1,b2,b3,b4,run_ieq,Result.andThen_ok,Bool.not_true,Bool.not_false,Bool.false_eq_true,if_true,if_false,Bool.true_and,Bool.false_and,Bool.and_true,reduceIte]
 by_cases e2:f 2=h 2
 case neg=>simp only[decide_eq_false e2,Sem.run_bind,Sem.run_pure,a1,a2,a3,a4,b1,b2,b3,b4,run_ieq,Result.andThen_ok,Bool.not_true,Bool.not_false,Bool.false_eq_true,if_true,if_false,Bool.true_and,Bool.false_and,Bool.and_true,reduceIte,decide_eq_true e1]
 by_cases e3:f 3=h 3
 case neg=>simp only[decide_eq_false e3,Sem.run_bind,Sem.run_pure,a1,a2,a3,a4,b1,b2,b3,b4,run_ieq,Result.andThen_ok,Bool.not_true,Bool.not_false,Bool.false_eq_true,if_true,if_false,Bool.true_and,Bool.false_and,Bool.and_true,reduceIte,decide_eq_true e1,decide_eq_true e2]
 by_cases e4:f 4=h 4
 case neg=>simp only[decide_eq_false e4,Sem.run_bind,Sem.run_pure,a1,a2,a3,a4,b1,b2,b3,b4,run_ieq,Result.andThen_ok,Bool.not_true,Bool.not_false,Bool.false_eq_true,if_true,if_false,Bool.true_and,Bool.false_and,Bool.and_true,reduceIte,decide_eq_true e1,decide_eq_true e2,decide_eq_true e3]
 simp only[decide_eq_true e1,decide_eq_true e2,decide_eq_true e3,decide_eq_true e4,Sem.run_bind,Sem.run_pure,a1,a2,a3,a4,b1,b2,b3,b4,run_ieq,Result.andThen_ok,Bool.not_true,Bool.not_false,Bool.false_eq_true,if_true,if_false,Bool.true_and,Bool.false_and,Bool.and_true,reduceIte]
theorem exec_pcE{b:Bool}(x y:Operand)(ho:o.op=.binOp .eql 62 x y 62)(hx:a.eval x=.agg (pcA f))(hy:a.eval y=.agg (pcA h2))(hb:decide (∀c∈([0,1,2,3,4]:List Int),f c=h2 c)=b):
  (execOp a.eval o).run Try.prog w=.ok (.value (.bool b)) w:=by
 have h:=run_pceq f h2 w
 rw[hb] at h
 unfold execOp
 simp only[ho,hx,hy]
 go_simp
end
section
variable {fn:Func}{R:Ending→World→Prop}{a:Act}{w:World}{B:Nat}{f:Int→Nat}{q:Tmp}
theorem ret_pc(hf:fn.results=#[.cell q 62])(h2:a.tmps[q]?=some (.pointer (some ⟨B,0,none⟩)))(hd:a.defers=[])(hb:Blk w B 62 (pcA f))
  (hR:R (.returned (.agg (pcA f))) w):bodyPost Try.prog fn R Exit.ret a w:=
 bodyPost_ret (results_cell_row hf a.tmps w B _ _ (0,0) _ (by simp[h2]) hb Try.underlying62 rfl info_pc) hd hR
def IsPc(f:Int→Nat)(w:World)(e:Ending)(w':World):Prop:=e=.returned (.agg (pcA f))∧Below w.heap.size w w'
end
end
section
namespace Ap
open Sto Ses
theorem cnt_take(l:List Rf)(c:Int)(j:Nat)(r:Rf)(h:l[j]?=some r):cnt (l.take (j+1)) c=cnt (l.take j) c+if r.c=c then 1 else 0:=by
 rw[List.take_add_one,h,cnt_append]
 show _+cnt [r] c=_
 rw[cnt_cons]
 show _+(0+_)=_
 rw[Nat.zero_add]
theorem W_take{l:List Ob}{i:Nat}{o:Ob}(h:l[i]?=some o)(c:Int):cnt (W (l.take (i+1))) c=cnt (W (l.take i)) c+cnt (wts o) c:=by
 rw[List.take_add_one,h]
 unfold W
 rw[List.flatMap_append,cnt_append]
 congr 2
 simp
theorem cnt_len(l:List Rf)(c:Int):cnt l c≤l.length:=List.countP_le_length
end Ap
end
section
open Go.RowKit
def pN(x:Oh):Nat:=if x.v.kind=3 then min 1 x.rn else 0
theorem pN_le(x:Oh):pN x≤x.rn:=by unfold pN;split<;>omega
theorem pN_take{x:Oh}(h:x.v.refs.length=x.rn):Ap.hld x.v=x.v.refs.take (pN x)∧Ap.wts x.v=x.v.refs.drop (pN x):=by
 unfold Ap.hld Ap.wts pN
 rw[← h]
 split
 ·cases hr:x.v.refs with
  | nil=>exact⟨rfl,rfl⟩
  | cons r m=>rw[show min 1 (r::m).length=1 from by rw[List.length_cons];omega];exact⟨rfl,rfl⟩
 ·exact⟨List.take_zero.symm,rfl⟩
def IsPts(x:Oh)(w:World)(e:Ending)(w':World):Prop:=∃(A1:Option Addr) (n1 c1:Nat) (A2:Option Addr) (n2 c2:Nat),e=.returned (.tuple #[.slice A1 n1 c1,.slice A2 n2 c2])∧(∀W,In W x→Sls rfLay rF W A1 n1 c1 (Ap.hld x.v)∧Sls rfLay rF W A2 n2 c2 (Ap.wts x.v))∧Below w.heap.size w w'
theorem apparts_any(x:Oh)(w:World)(hx:In w x):Calls Try.prog 20 #[.agg (obA x)] w (IsPts x w):=by
 have HR:=zH hx.r
 obtain⟨q1,q2⟩:=pN_take hx.r.len
 have hle:=pN_le x
 have hlc:x.rn≤x.rc:=hx.r.cap
 have HN:Hid (pN x=if x.v.kind=3 then min 1 x.rn else 0):=zH rfl
 have HS1:Hid (∀W,In W x→Sls rfLay rF W x.rA (pN x) x.rc (Ap.hld x.v)∧Sls rfLay rF W (subA 3 x.rA (pN x) x.rc) (x.rn-pN x) (x.rc-pN x) (Ap.wts x.v)):=zH fun W h=>⟨by rw[q1];exact h.r.take hle,by rw[q2];exact h.r.drop hle⟩
 have hlc2:pN x≤x.rc:=Nat.le_trans hle hlc
 clear q1 q2 hlc hx
 generalize pN x=N at *
 have HK:=kn1 w 69 (obA x)
 go_enter Try.func20,Try.ntmps20
 have HT:Hid (decide (x.v.kind=3)=true→N=min 1 x.rn):=zH fun h=>by rw[HN.out,if_pos (of_decide_eq_true h)]
 have HF:Hid (decide (x.v.kind=3)=false→N=0):=zH fun h=>by rw[HN.out,if_neg (of_decide_eq_false h)]
 obtain⟨b,hb⟩:∃b,decide (x.v.kind=3)=b:=⟨_,rfl⟩
 have E3:=zH hb
 rw[hb] at HT HF
 clear hb HN
 go_upto_if 7 with (first|refine wpList_exe (kob_k HK 0 _ (by rfl) (by rfl) (by rfl)) (by rfl) ?_|refine wpList_exe (exec_iE (m:=x.v.kind) (n:=3) _ _ (by rfl) (by rfl) (by rfl) E3.out) (by rfl) ?_)
 try simp only[ap1,ap2,ap3,ap4,ap5]
 go_cut [4] (fun v wx=>v=.int .i64 (N:Int)∧Hid (Kn w.heap.size w wx [(w.heap.size,69,obA x)] []))
 case first=>
  clear HS1 hle hlc2
  cases b with
  | true=>
   have hN:=HT.out rfl
   clear HT HF
   by_cases h0:1≤x.rn
   ·have hN:(N:Int)=1:=by omega
    have h1:(1:Int)≤(x.rn:Int):=by omega
    have h2:¬(x.rn:Int)<1:=by omega
    go_wp2_with (first|refine wpList_exe (kob_r HK 0 _ (by rfl) (by rfl) (by rfl)) (by rfl) ?_)
    all_goals (try omega)
    go_meet
    exact⟨by rw[hN],HK⟩
   ·have hN:(N:Int)=0:=by omega
    have h1:(x.rn:Int)=0:=by omega
    have h2:(x.rn:Int)<1:=by omega
    go_wp2_with (first|refine wpList_exe (kob_r HK 0 _ (by rfl) (by rfl) (by rfl)) (by rfl) ?_)
    all_goals (try omega)
    go_meet
    exact⟨by rw[hN],HK⟩
  | false=>
   have hN:=HF.out rfl
   clear HT HF
   go_wp2_with fail
   go_meet
   exact⟨by rw[hN];rfl,HK⟩
 case rest=>
 clear HK HT HF
 obtain⟨rfl,HK⟩:=hcut
 go_wp2_with fail
 have HK0:=zH HK.out.drew
 refine wp_region_held_drew (S:=(fun W=>Hid (Kn w.heap.size w W [(w.heap.size,69,obA x)] []))) (by kernel_rfl) ?_ (fun hHeld=>?_)
 ·(try dsimp only);exact HK0
 refine wpAnyH_take (i:=0) (oi:=⟨some 12,_,_,_,_,_⟩) (v:=?_) rfl (by kernel_rfl) (by kernel_rfl) (by kernel_rfl) (fun _ _ _ h=>h) (Or.inl ⟨by rfl,?_⟩) (by assumption) ?_
 rotate_left
 ·(intro w hSw;(try dsimp only at hSw);go_simp;try with_reducible rfl)
 try simp only[Act.put,List.setIfInBounds_toArray,List.set_cons_zero,List.set_cons_succ]
 refine wpAnyH_take (i:=1) (oi:=⟨some 13,_,_,_,_,_⟩) (v:=?_) rfl (by kernel_rfl) (by kernel_rfl) (by kernel_rfl) (fun _ _ _ h=>h) (Or.inl ⟨by rfl,?_⟩) (by assumption) ?_
 rotate_left
 ·(intro w hSw;refine Eq.trans (kob_r hSw 0 _ (by rfl) (by rfl) (by rfl)) ?_;with_reducible rfl)
 try simp only[Act.put,List.setIfInBounds_toArray,List.set_cons_zero,List.set_cons_succ]
 refine wpAnyH_take (i:=2) (oi:=⟨some 14,_,_,_,_,_⟩) (v:=?_) rfl (by kernel_rfl) (by kernel_rfl) (by kernel_rfl) (fun _ _ _ h=>h) (Or.inl ⟨by rfl,?_⟩) (by assumption) ?_
 rotate_left
 ·(intro w hSw;(try dsimp only at hSw);go_simp;try with_reducible rfl)
 try simp only[Act.put,List.setIfInBounds_toArray,List.set_cons_zero,List.set_cons_succ]
 refine wpAnyH_take (i:=3) (oi:=⟨some 15,_,_,_,_,_⟩) (v:=?_) rfl (by kernel_rfl) (by kernel_rfl) (by kernel_rfl) (fun _ _ _ h=>h) (Or.inl ⟨by rfl,?_⟩) (by assumption) ?_
 rotate_left
 ·(intro w hSw;refine Eq.trans (exec_srh (hi:=N) _ _ (by rfl) (by rfl) (by rfl) hlc2) ?_;with_reducible rfl)
 try simp only[Act.put,List.setIfInBounds_toArray,List.set_cons_zero,List.set_cons_succ]
 refine wpAnyH_take (i:=4) (oi:=⟨some 16,_,_,_,_,_⟩) (v:=?_) rfl (by kernel_rfl) (by kernel_rfl) (by kernel_rfl) (fun _ _ _ h=>h) (Or.inl ⟨by rfl,?_⟩) (by assumption) ?_
 rotate_left
 ·(intro w hSw;(try dsimp only at hSw);go_simp;try with_reducible rfl)
 try simp only[Act.put,List.setIfInBounds_toArray,List.set_cons_zero,List.set_cons_succ]
 refine wpAnyH_take (i:=5) (oi:=⟨some 17,_,_,_,_,_⟩) (v:=?_) rfl (by kernel_rfl) (by kernel_rfl) (by kernel_rfl) (fun _ _ _ h=>h) (Or.inl ⟨by rfl,?_⟩) (by assumption) ?_
 rotate_left
 ·(intro w hSw;refine Eq.trans (kob_r hSw 0 _ (by rfl) (by rfl) (by rfl)) ?_;with_reducible rfl)
 try simp only[Act.put,List.setIfInBounds_toArray,List.set_cons_zero,List.set_cons_succ]
 refine wpAnyH_take (i:=6) (oi:=⟨some 18,_,_,_,_,_⟩) (v:=?_) rfl (by kernel_rfl) (by kernel_rfl) (by kernel_rfl) (fun _ _ _ h=>h) (Or.inl ⟨by rfl,?_⟩) (by assumption) ?_
 rotate_left
 ·(intro w hSw;(try dsimp only at hSw);go_simp;try with_reducible rfl)
 try simp only[Act.put,List.setIfInBounds_toArray,List.set_cons_zero,List.set_cons_succ]
 refine wpAnyH_take (i:=7) (oi:=⟨some 19,_,_,_,_,_⟩) (v:=?_) rfl (by kernel_rfl) (by kernel_rfl) (by kernel_rfl) (fun _ _ _ h=>h) (Or.inl ⟨by rfl,?_⟩) (by assumption) ?_
 rotate_left
 ·(intro w hSw;refine Eq.trans (exec_srl (lo:=N) _ _ (by rfl) (by rfl) (by rfl) hle) ?_;with_reducible rfl)
 try simp only[Act.put,List.setIfInBounds_toArray,List.set_cons_zero,List.set_cons_succ]
 refine wpAnyH_take (i:=8) (oi:=⟨some 2,_,_,_,_,_⟩) (v:=?_) rfl (by kernel_rfl) (by kernel_rfl) (by kernel_rfl) (fun _ _ _ h=>h) (Or.inl ⟨by rfl,?_⟩) (by assumption) ?_
 rotate_left
 ·(intro w hSw;(try dsimp only at hSw);go_simp;try with_reducible rfl)
 try simp only[Act.put,List.setIfInBounds_toArray,List.set_cons_zero,List.set_cons_succ]
 refine wpAnyH_take (i:=9) (oi:=⟨some 3,_,_,_,_,_⟩) (v:=?_) rfl (by kernel_rfl) (by kernel_rfl) (by kernel_rfl) (fun _ _ _ h=>h) (Or.inl ⟨by rfl,?_⟩) (by assumption) ?_
 rotate_left
 ·(intro w hSw;(try dsimp only at hSw);go_simp;try with_reducible rfl)
 try simp only[Act.put,List.setIfInBounds_toArray,List.set_cons_zero,List.set_cons_succ]
 refine wpAnyH_done (by kernel_rfl) ?_ _
 go_wp2_with fail
 exact ret_t2 Try.results20 rfl rfl rfl ⟨_,_,_,_,_,_,rfl,HS1.out,hHeld.out.b⟩
end
section
open Go.RowKit
namespace Ap
def HdB(s:Ses.S)(r:Rf):Bool:=s.live&&decide (s.ep=r.e)&&decide (1≤r.r)&&(decide (r.r<s.rq) || decide (r.r=s.rq)&&s.dn)
theorem hdb_is(t:Ses.T)(r:Rf):HdB (t.get r.c) r=true↔(Hd t r∧¬(r.r=(t.get r.c).rq∧(t.get r.c).dn=false)):=by
 unfold HdB Hd
 generalize t.get r.c=s
 cases s.live<;>cases s.dn<;>simp<;>omega
def due1(s:Ses.S):Nat:=if s≠Ses.z∧s.dn=false then 1 else 0
def due(t:Ses.T):Int→Nat:=fun c=>due1 (t.get c)
theorem due_is{t:Ses.T}(h:Ses.Right t){c:Int}(hc:0≤c∧c<5):due t c=if opn (t.get c)=true then 1 else 0:=by
 have h1:=Ses.right_one h hc
 unfold due due1 opn
 by_cases he:(t.get c).ep=0
 ·rw[Ses.one_zero h1 he]
  rfl
 ·have hp:=(Ses.one_pos h1 he).2.1
  have hz:t.get c≠Ses.z:=fun g=>he (by rw[g];rfl)
  have hep:decide (0<(t.get c).ep)=true:=decide_eq_true (by omega)
  rw[hep]
  cases hd:(t.get c).dn
  ·rw[if_pos ⟨hz,rfl⟩];rfl
  ·rw[if_neg (fun g=>by cases g.2)];rfl
end Ap
theorem holds_any(t:Ses.T)(r:Rf)(w:World)(hc:0≤r.c∧r.c<5):
  Calls Try.prog 21 #[.agg (tbA t),.agg #[.int .i64 r.c,.int .i64 r.e,.int .i64 r.r]] w (IsB (Ap.HdB (t.get r.c) r) w):=by
 have HK:=kn2 w 31 (tbA t) 74 #[.int .i64 r.c,.int .i64 r.e,.int .i64 r.r]
 have HB:Hid (Ap.HdB (t.get r.c) r=((t.get r.c).live&&decide ((t.get r.c).ep=r.e)&&decide (1≤r.r)&&(decide (r.r<(t.get r.c).rq) || decide (r.r=(t.get r.c).rq)&&(t.get r.c).dn))):=zH rfl
 generalize Ap.HdB (t.get r.c) r=b at *
 unfold IsB
 go_enter Try.func21,Try.ntmps21
 go_upto_region 2 with (first|refine wpList_exe (krf_c (x:=r) HK 1 _ (by rfl) (by rfl) (by rfl)) (by rfl) ?_|refine wpList_exe (exec_ixt hc _ _ (by rfl) (by rfl) (by rfl)) (by rfl) ?_|refine wpList_exe (kts HK 0 hc _ (by rfl) (by rfl) (by rfl)) (by rfl) ?_|(refine wpList_ase HK rfl rfl ?_;intro _ g2 HK';simp only[lcA,lnA] at HK';replace HK:=HK';clear HK')|(refine wpList_sse (u:=t.get r.c) HK 2 rfl _ _ rfl rfl rfl rfl ?_;intro _ HK';simp only[List.set] at HK';replace HK:=HK';clear HK'))
 have fe:=HK.out.cell 1 rfl 1 (v:=.int .i64 r.e) rfl
 have fr:=HK.out.cell 1 rfl 2 (v:=.int .i64 r.r) rfl
 have fl:=HK.out.cell 2 rfl 0 (v:=.bool (t.get r.c).live) rfl
 have fp:=HK.out.cell 2 rfl 1 (v:=.int .i64 (t.get r.c).ep) rfl
 have fq:=HK.out.cell 2 rfl 2 (v:=.int .i64 (t.get r.c).rq) rfl
 have fd:=HK.out.cell 2 rfl 3 (v:=.bool (t.get r.c).dn) rfl
 generalize (t.get r.c).live=lv at *
 generalize (t.get r.c).ep=ep at *
 generalize (t.get r.c).rq=rq at *
 generalize (t.get r.c).dn=dn at *
 clear hc
 cases lv with
 | false=>
  have hb:b=false:=by rw[HB.out];rfl
  subst hb
  clear HB
  go_wp2_with fail
  go_ret
  exact⟨rfl,HK.out.b⟩
 | true=>
 by_cases h1:ep=r.e
 case neg=>
  have hb:b=false:=by rw[HB.out,decide_eq_false h1];rfl
  subst hb
  have hb1:(ep==r.e)=false:=by simpa using h1
  have hb2:(ep != r.e)=true:=by simpa using h1
  clear HB h1
  go_wp2_with fail
  go_ret
  exact⟨rfl,HK.out.b⟩
 case pos=>
 have hb1:(ep==r.e)=true:=by simpa using h1
 have hb2:(ep != r.e)=false:=by simpa using h1
 rw[decide_eq_true h1] at HB
 clear h1
 by_cases h2:r.r<1
 case pos=>
  have hb:b=false:=by rw[HB.out,decide_eq_false (show ¬1≤r.r by omega)];rfl
  subst hb
  clear HB
  go_wp2_with fail
  go_ret
  exact⟨rfl,HK.out.b⟩
 case neg=>
 rw[decide_eq_true (show 1≤r.r by omega)] at HB
 by_cases h3:r.r<rq
 case pos=>
  have hb:b=true:=by rw[HB.out,decide_eq_true h3];rfl
  subst hb
  clear HB
  go_wp2_with fail
  go_ret
  exact⟨rfl,HK.out.b⟩
 case neg=>
 rw[decide_eq_false h3] at HB
 by_cases h4:r.r=rq
 case neg=>
  have hb:b=false:=by rw[HB.out,decide_eq_false h4];rfl
  subst hb
  have hb3:(r.r==rq)=false:=by simpa using h4
  clear HB h4
  go_wp2_with fail
  go_ret
  exact⟨rfl,HK.out.b⟩
 case pos=>
 have hb:b=dn:=by rw[HB.out,decide_eq_true h4];cases dn<;>rfl
 subst hb
 have hb3:(r.r==rq)=true:=by simpa using h4
 clear HB h4
 cases b<;>(go_wp2_with fail;go_ret;exact⟨rfl,HK.out.b⟩)
theorem due_any(t:Ses.T)(w:World)(hf:Ses.Fit t):Calls Try.prog 23 #[.agg (tbA t)] w (IsPc (Ap.due t) w):=by
 have HK:=kn1 w 31 (tbA t)
 unfold IsPc
 go_enter Try.func23,Try.ntmps23
 go_upto_region 1 with (first|(refine wpList_apc HK rfl rfl ?_;intro _ g0 HK';simp only[lcA,lnA] at HK';replace HK:=HK';clear HK'))
 go_wp2_with (first|(refine wpList_apc HK rfl rfl ?_;intro _ g1 HK';simp only[lcA,lnA] at HK';replace HK:=HK';clear HK')|refine wpList_exe (exec_bpz (by rfl)) (by rfl) ?_|(refine wpList_spc (h2:=pcZ) HK 2 rfl _ _ rfl rfl rfl rfl ?_;intro _ HK';simp only[List.set] at HK';replace HK:=HK';clear HK')|refine wpList_exe (ktb HK 0 _ (by rfl) (by rfl) (by rfl)) (by rfl) ?_)
 go_loopw [8] (fun v8 wr=>∃(j:Nat) (f:Int→Nat),j≤5∧v8=.int .i64 j∧Hid (∀c:Int,0≤c∧c<5→f c=if c<(j:Int) then Ap.due t c else 0)∧Hid (Kn w.heap.size w wr [(w.heap.size,31,tbA t),(g0,62,pcA pcZ),(g1,62,pcA f)] [])) (fun v8 _=>5-(intOf v8).toNat)
 case atStart=>exact⟨0,pcZ,by omega,rfl,zH (fun c hc=>by rw[if_neg (by omega)];rfl),HK⟩
 case round=>
  clear HK
  obtain⟨j,f,hj,rfl,HF,HK⟩:=hrel
  have hj1:(0:Int)≤(j:Int):=by omega
  by_cases hlt:j<5
  case neg=>
   obtain rfl:j=5:=by omega
   have he:pcA f=pcA (Ap.due t):=by
    unfold pcA
    rw[HF.out 0 (by decide),HF.out 1 (by decide),HF.out 2 (by decide),HF.out 3 (by decide),HF.out 4 (by decide)]
    rfl
   rw[he] at HK
   go_wp2_with (first|refine wpList_exe (kpc HK 2 _ (by rfl) (by rfl) (by rfl)) (by rfl) ?_|(refine wpList_spc (h2:=Ap.due t) HK 1 rfl _ _ rfl rfl rfl rfl ?_;intro _ HK';simp only[List.set] at HK';replace HK:=HK';clear HK'))
   exact ret_pc Try.results23 rfl rfl (HK.out.blk 1 rfl) ⟨rfl,HK.out.b⟩
  case pos=>
  have hj2:(j:Int)<5:=by omega
  have hj3:j<9223372036854775807:=by omega
  have hc:0≤(j:Int)∧(j:Int)<5:=⟨hj1,hj2⟩
  by_cases hz:t.get (j:Int)=Ses.z
  case pos=>
   have HZ:Hid ((!decide (t.get (j:Int)=Ses.z))=false):=zH (by rw[decide_eq_true hz];rfl)
   have HF2:Hid (∀c:Int,0≤c∧c<5→f c=if c<((j+1:Nat):Int) then Ap.due t c else 0):=zH fun c hc2=>by
    rw[HF.out c hc2]
    by_cases e:c=(j:Int)
    ·rw[if_neg (by omega),if_pos (by omega),e]
     unfold Ap.due Ap.due1
     rw[if_neg (fun g=>g.1 hz)]
    ·by_cases e2:c<(j:Int)
     ·rw[if_pos e2,if_pos (by omega)]
     ·rw[if_neg e2,if_neg (by omega)]
   clear hz HF
   go_wp2_with (first|refine wpList_exe (exec_ixs (t:=t) hc _ _ (by rfl) (by rfl) (by rfl)) (by rfl) ?_|(refine wpList_ase HK rfl rfl ?_;intro _ g5 HK';simp only[lcA,lnA] at HK';replace HK:=HK';clear HK')|(refine wpList_sse (u:=t.get (j:Int)) HK 3 rfl _ _ rfl rfl rfl rfl ?_;intro _ HK';simp only[List.set] at HK';replace HK:=HK';clear HK')|refine wpList_exe (kse HK 3 _ (by rfl) (by rfl) (by rfl)) (by rfl) ?_|refine wpList_exe (exec_bz (by rfl)) (by rfl) ?_|refine wpList_exe (exec_seN _ _ (by rfl) (by rfl) (by rfl) HZ.out) (by rfl) ?_|refine wpList_exe (exec_add1 (j:=j) _ (by rfl) (by rfl) hj3) (by rfl) ?_)
   exact⟨⟨j+1,f,hlt,rfl,HF2,zH (HK.out.takeL 3)⟩,by simp[intOf];omega⟩
  case neg=>
  have HZ:Hid ((!decide (t.get (j:Int)=Ses.z))=true):=zH (by rw[decide_eq_false hz];rfl)
  cases hd:(t.get (j:Int)).dn with
  | true=>
   have HD:=zH hd
   have HF2:Hid (∀c:Int,0≤c∧c<5→f c=if c<((j+1:Nat):Int) then Ap.due t c else 0):=zH fun c hc2=>by
    rw[HF.out c hc2]
    by_cases e:c=(j:Int)
    ·rw[if_neg (by omega),if_pos (by omega),e]
     unfold Ap.due Ap.due1
     rw[if_neg (fun g=>by rw[hd] at g;cases g.2)]
    ·by_cases e2:c<(j:Int)
     ·rw[if_pos e2,if_pos (by omega)]
     ·rw[if_neg e2,if_neg (by omega)]
   clear hz hd HF
   go_wp2_with (first|refine wpList_exe (exec_ixs (t:=t) hc _ _ (by rfl) (by rfl) (by rfl)) (by rfl) ?_|(refine wpList_ase HK rfl rfl ?_;intro _ g5 HK';simp only[lcA,lnA] at HK';replace HK:=HK';clear HK')|(refine wpList_sse (u:=t.get (j:Int)) HK 3 rfl _ _ rfl rfl rfl rfl ?_;intro _ HK';simp only[List.set] at HK';replace HK:=HK';clear HK')|refine wpList_exe (kse HK 3 _ (by rfl) (by rfl) (by rfl)) (by rfl) ?_|refine wpList_exe (exec_bz (by rfl)) (by rfl) ?_|refine wpList_exe (exec_seN _ _ (by rfl) (by rfl) (by rfl) HZ.out) (by rfl) ?_|refine wpList_exe ((kse_d HK 3 _ (by rfl) (by rfl) (by rfl)).trans (by rw[HD.out])) (by rfl) ?_|refine wpList_exe (exec_add1 (j:=j) _ (by rfl) (by rfl) hj3) (by rfl) ?_)
   exact⟨⟨j+1,f,hlt,rfl,HF2,zH (HK.out.takeL 3)⟩,by simp[intOf];omega⟩
  | false=>
   have HD:=zH hd
   have HF2:Hid (∀c:Int,0≤c∧c<5→pcU f (j:Int) 1 c=if c<((j+1:Nat):Int) then Ap.due t c else 0):=zH fun c hc2=>by
    unfold pcU
    by_cases e:c=(j:Int)
    ·rw[if_pos e,if_pos (by omega),e]
     unfold Ap.due Ap.due1
     rw[if_pos ⟨hz,hd⟩]
    ·rw[if_neg e,HF.out c hc2]
     by_cases e2:c<(j:Int)
     ·rw[if_pos e2,if_pos (by omega)]
     ·rw[if_neg e2,if_neg (by omega)]
   clear hz hd HF
   go_wp2_with (first|refine wpList_exe (exec_ixs (t:=t) hc _ _ (by rfl) (by rfl) (by rfl)) (by rfl) ?_|(refine wpList_ase HK rfl rfl ?_;intro _ g5 HK';simp only[lcA,lnA] at HK';replace HK:=HK';clear HK')|(refine wpList_sse (u:=t.get (j:Int)) HK 3 rfl _ _ rfl rfl rfl rfl ?_;intro _ HK';simp only[List.set] at HK';replace HK:=HK';clear HK')|refine wpList_exe (kse HK 3 _ (by rfl) (by rfl) (by rfl)) (by rfl) ?_|refine wpList_exe (exec_bz (by rfl)) (by rfl) ?_|refine wpList_exe (exec_seN _ _ (by rfl) (by rfl) (by rfl) HZ.out) (by rfl) ?_|refine wpList_exe ((kse_d HK 3 _ (by rfl) (by rfl) (by rfl)).trans (by rw[HD.out])) (by rfl) ?_|refine wpList_exe (exec_ixp hc _ _ (by rfl) (by rfl) (by rfl)) (by rfl) ?_|(refine wpList_sp1 (v:=1) HK 2 rfl hc _ _ rfl rfl rfl rfl ?_;intro _ HK';simp only[List.set] at HK';replace HK:=HK';clear HK')|refine wpList_exe (exec_add1 (j:=j) _ (by rfl) (by rfl) hj3) (by rfl) ?_)
   exact⟨⟨j+1,_,hlt,rfl,HF2,zH (HK.out.takeL 3)⟩,by simp[intOf];omega⟩
end
section
namespace Ap
open Sto Ses
structure Sofar(l:List Ob)(t:T)(f:Int→Nat)(i:Nat):Prop where
 h:∀r∈H (l.take i),HdB (t.get r.c) r=true
 w:∀r∈W (l.take i),Ses.look t r=3
 p:∀c:Int,0≤c∧c<5→f c=cnt (W (l.take i)) c
 b:∀c:Int,0≤c∧c<5→f c≤5*i
theorem Sofar.nil(l:List Ob)(t:T):Sofar l t pcZ 0:=by
 refine⟨fun r hr=>?_,fun r hr=>?_,fun c _=>?_,fun c _=>Nat.zero_le _⟩
 ·rw[List.take_zero] at hr;cases hr
 ·rw[List.take_zero] at hr;cases hr
 ·rw[List.take_zero];rfl
structure Sofar1(m:List Rf)(t:T)(f f2:Int→Nat)(j:Nat):Prop where
 w:∀r∈m.take j,Ses.look t r=3
 p:∀c:Int,0≤c∧c<5→f2 c=f c+cnt (m.take j) c
theorem Sofar1.nil(m:List Rf)(t:T)(f:Int→Nat):Sofar1 m t f f 0:=
 ⟨fun r hr=>(by rw[List.take_zero] at hr;cases hr),fun c _=>(by rw[List.take_zero];rfl)⟩
theorem Sofar1.le{m:List Rf}{t:T}{f f2:Int→Nat}{j:Nat}(h:Sofar1 m t f f2 j){c:Int}(hc:0≤c∧c<5):f2 c≤f c+j:=by
 rw[h.p c hc]
 have:=cnt_len (m.take j) c
 rw[List.length_take] at this
 omega
theorem Sofar1.step{m:List Rf}{t:T}{f f2:Int→Nat}{j:Nat}{r:Rf}(h:Sofar1 m t f f2 j)(hr:m[j]?=some r)(hl:Ses.look t r=3):Sofar1 m t f (pcU f2 r.c (f2 r.c+1)) (j+1):=by
 refine⟨fun q hq=>?_,fun c hc=>?_⟩
 ·rw[List.take_add_one,hr] at hq
  rcases List.mem_append.1 hq with hq|hq
  ·exact h.w q hq
  ·have:q=r:=by simpa using hq
   rw[this];exact hl
 ·rw[cnt_take _ _ _ _ hr]
  unfold pcU
  by_cases e:c=r.c
  ·rw[if_pos e,if_pos e.symm,← e,h.p c hc]
   omega
  ·rw[if_neg e,if_neg (fun g=>e g.symm),h.p c hc]
   omega
theorem Sofar.step{l:List Ob}{t:T}{f f2:Int→Nat}{i:Nat}{o:Ob}(h:Sofar l t f i)(ho:l[i]?=some o)(h5:(wts o).length≤5)(hh:∀r∈hld o,HdB (t.get r.c) r=true)(h1:Sofar1 (wts o) t f f2 (wts o).length):Sofar l t f2 (i+1):=by
 have eH:∀r,r∈H (l.take (i+1))→r∈H (l.take i)∨r∈hld o:=fun r hr=>by
  unfold H at hr
  rw[List.take_add_one,ho,List.flatMap_append] at hr
  rcases List.mem_append.1 hr with hr|hr
  ·exact .inl hr
  ·exact .inr (by simpa using hr)
 have eW:∀r,r∈W (l.take (i+1))→r∈W (l.take i)∨r∈wts o:=fun r hr=>by
  unfold W at hr
  rw[List.take_add_one,ho,List.flatMap_append] at hr
  rcases List.mem_append.1 hr with hr|hr
  ·exact .inl hr
  ·exact .inr (by simpa using hr)
 refine⟨fun r hr=>(eH r hr).elim (h.h r) (hh r),fun r hr=>(eW r hr).elim (h.w r) fun g=>h1.w r (by rw[List.take_length];exact g),fun c hc=>?_,fun c hc=>?_⟩
 ·rw[W_take ho,h1.p c hc,List.take_length,h.p c hc]
 ·have:=h1.le hc
  have:=h.b c hc
  omega
theorem ok_no_h{n:Int}{l:List Ob}{t:T}{i:Nat}{o:Ob}{r:Rf}(ho:l[i]?=some o)(hr:r∈hld o)(hb:HdB (t.get r.c) r=false):decide (Ok ⟨n,l,t⟩)=false:=
 decide_eq_false fun h=>by
  have:=(hdb_is t r).2 (h.h r (List.mem_flatMap.2 ⟨o,List.mem_of_getElem? ho,hr⟩))
  rw[hb] at this
  cases this
theorem ok_no_w{n:Int}{l:List Ob}{t:T}{i:Nat}{o:Ob}{r:Rf}(ho:l[i]?=some o)(hr:r∈wts o)(hb:¬Ses.look t r=3):decide (Ok ⟨n,l,t⟩)=false:=
 decide_eq_false fun h=>hb (h.w r (List.mem_flatMap.2 ⟨o,List.mem_of_getElem? ho,hr⟩))
theorem ok_no{n:Int}{l:List Ob}{t:T}(h:¬0≤n∨¬Sto.Right l∨¬Ses.Right t):decide (Ok ⟨n,l,t⟩)=false:=
 decide_eq_false fun g=>by
  rcases h with h|h|h
  ·exact h g.n
  ·exact h g.l
  ·exact h g.t
theorem ok_end{n:Int}{l:List Ob}{t:T}{f:Int→Nat}(hn:0≤n)(hl:Sto.Right l)(ht:Ses.Right t)(h:Sofar l t f l.length):decide (∀c∈([0,1,2,3,4]:List Int),f c=due t c)=decide (Ok ⟨n,l,t⟩):=by
 have e:l.take l.length=l:=List.take_length
 obtain⟨h1,h2,h3,_⟩:=h
 rw[e] at h1 h2 h3
 refine decide_eq_decide.2 ⟨fun g=>⟨hn,hl,ht,h2,fun r hr=>(hdb_is t r).1 (h1 r hr),fun c hc=>?_⟩,fun g c hc=>?_⟩
 ·rw[← h3 c (five.1 hc),g c hc,due_is ht (five.1 hc)]
 ·rw[h3 c (five.1 hc),due_is ht (five.1 hc)]
  exact g.p c hc
theorem wts_few{o:Ob}(h:One o=true):(wts o).length≤5:=by
 have:=Lck.right_len (refs_right h)
 unfold wts
 split
 ·rw[List.length_drop];omega
 ·exact this
end Ap
end
section
open Go.RowKit
section
variable {b0:Nat}{w0 w:World}{L:List (Nat×TypeId×Array Value)}{R:List RowE}{o:Oper}{a:Act}{g:Nat}{p:Sto.Rp}
theorem krp_e(HK:Hid (Kn b0 w0 w L R))(i:Nat)(r:Operand)(ho:o.op=.load 23 r)(hL:L[i]?=some (g,28,rpA p))(hx:a.eval r=.pointer (some ⟨g,0,none⟩)):
  (execOp a.eval o).run Try.prog w=.ok (.value (.int .i64 p.e)) w:=kexec_lc HK _ r ho i hL hx rfl Try.underlying23 rfl
theorem krp_v(HK:Hid (Kn b0 w0 w L R))(i:Nat)(r:Operand)(ho:o.op=.load 26 r)(hL:L[i]?=some (g,28,rpA p))(hx:a.eval r=.pointer (some ⟨g,1,none⟩)):
  (execOp a.eval o).run Try.prog w=.ok (.value (.agg #[.int .i64 p.v.k,.int .i64 p.v.n,.int .u64 (p.v.f:Int),.string p.v.s])) w:=
 kexec_ls HK _ r ho i hL hx #[.int .i64 p.v.k,.int .i64 p.v.n,.int .u64 (p.v.f:Int),.string p.v.s] (fun j hj=>by
  match j,hj with
  | 0,_|1,_|2,_|3,_=>rfl) Try.underlying26 info_v4
theorem exec_e0l{x:Int}{b:Bool}(q:Operand)(ho:o.op=.binOp .leq 23 (.const (.int .i64 0)) q 23)(hq:a.eval q=.int .i64 x)(hb:decide (0≤x)=b):
  (execOp a.eval o).run Try.prog w=.ok (.value (.bool b)) w:=by
 have he:a.eval (.const (.int .i64 0))=.int .i64 0:=rfl
 subst hb
 unfold execOp
 simp only[ho,hq,he]
 go_simp
theorem exec_e0g{x:Int}{b:Bool}(q:Operand)(ho:o.op=.binOp .geq 23 q (.const (.int .i64 0)) 23)(hq:a.eval q=.int .i64 x)(hb:decide (0≤x)=b):
  (execOp a.eval o).run Try.prog w=.ok (.value (.bool b)) w:=by
 have he:a.eval (.const (.int .i64 0))=.int .i64 0:=rfl
 subst hb
 unfold execOp
 simp only[ho,hq,he]
 go_simp
theorem exec_e18{x:Int}{b:Bool}(q:Operand)(ho:o.op=.binOp .leq 23 q (.const (.int .i64 18)) 23)(hq:a.eval q=.int .i64 x)(hb:decide (x≤18)=b):
  (execOp a.eval o).run Try.prog w=.ok (.value (.bool b)) w:=by
 have he:a.eval (.const (.int .i64 18))=.int .i64 18:=rfl
 subst hb
 unfold execOp
 simp only[ho,hq,he]
 go_simp
end
theorem sreply_any(p:Sto.Rp)(w:World)(hf:p.v.f<18446744073709551616):Calls Try.prog 78 #[.agg (rpA p)] w (IsB (Sto.rep p) w):=by
 have HC:=zH (fun W=>check_any p.v W hf)
 have HK:=kn1 w 28 (rpA p)
 unfold IsB Sto.rep
 unfold IsE vv at HC
 generalize h1:decide (0≤p.e)=b1
 have H1:=zH h1
 generalize h2:decide (p.e≤18)=b2
 have H2:=zH h2
 generalize Val.chk p.v=z at *
 clear h1 h2 hf
 cases b1
 ·go_enter Try.func78,Try.ntmps78
  go_wp2_with (first|refine wpList_exe (krp_e HK 0 _ (by rfl) (by rfl) (by rfl)) (by rfl) ?_|refine wpList_exe (krp_v HK 0 _ (by rfl) (by rfl) (by rfl)) (by rfl) ?_|refine wpList_exe (exec_e0l (x:=p.e) _ (by rfl) (by rfl) H1.out) (by rfl) ?_|refine wpList_exe (exec_e0g (x:=p.e) _ (by rfl) (by rfl) H1.out) (by rfl) ?_|refine wpList_exe (exec_e18 (x:=p.e) _ (by rfl) (by rfl) H2.out) (by rfl) ?_)
  go_ret
  exact⟨rfl,HK.out.b⟩
 cases b2
 ·go_enter Try.func78,Try.ntmps78
  go_wp2_with (first|refine wpList_exe (krp_e HK 0 _ (by rfl) (by rfl) (by rfl)) (by rfl) ?_|refine wpList_exe (krp_v HK 0 _ (by rfl) (by rfl) (by rfl)) (by rfl) ?_|refine wpList_exe (exec_e0l (x:=p.e) _ (by rfl) (by rfl) H1.out) (by rfl) ?_|refine wpList_exe (exec_e0g (x:=p.e) _ (by rfl) (by rfl) H1.out) (by rfl) ?_|refine wpList_exe (exec_e18 (x:=p.e) _ (by rfl) (by rfl) H2.out) (by rfl) ?_)
  go_ret
  exact⟨rfl,HK.out.b⟩
 ·go_enter Try.func78,Try.ntmps78
  go_wp2_with (first|refine wpList_exe (krp_e HK 0 _ (by rfl) (by rfl) (by rfl)) (by rfl) ?_|refine wpList_exe (krp_v HK 0 _ (by rfl) (by rfl) (by rfl)) (by rfl) ?_|refine wpList_exe (exec_e0l (x:=p.e) _ (by rfl) (by rfl) H1.out) (by rfl) ?_|refine wpList_exe (exec_e0g (x:=p.e) _ (by rfl) (by rfl) H1.out) (by rfl) ?_|refine wpList_exe (exec_e18 (x:=p.e) _ (by rfl) (by rfl) H2.out) (by rfl) ?_)
  refine(HC.out _).mono ?_;rintro e w1 ⟨rfl,x1⟩
  replace HK:=hkC HK x1
  clear x1
  go_wp2_with fail
  go_ret
  exact⟨rfl,HK.out.b⟩
end
section
open Go.RowKit
theorem ssound_any(s:Ses.S)(w:World)(hf:s.p.v.f<18446744073709551616):Calls Try.prog 44 #[.agg (seA s)] w (IsB (Ses.snd s) w):=by
 obtain⟨l,ep,rq,dn,p⟩:=s
 have HC:=zH (fun W=>sreply_any p W hf)
 have HK:=kn1 w 30 (seA ⟨l,ep,rq,dn,p⟩)
 unfold IsB Ses.snd
 unfold IsB at HC
 dsimp only
 generalize h1:decide (0<ep)=b1
 have H1:Hid (decide (ep≤0)=!b1):=zH (by rw[← h1,Bool.eq_iff_iff];simp)
 generalize h2:decide (0≤rq)=b2
 have H2:Hid (decide (rq<0)=!b2):=zH (by rw[← h2,Bool.eq_iff_iff];simp)
 generalize h4:decide (0<rq)=b4
 have H4:=zH h4
 generalize h5:decide (p=Sto.rz)=b5
 have H5:=zH h5
 generalize Sto.rep p=b3 at *
 clear h1 h2 h4 h5 hf
 cases b1
 case false=>
  go_enter Try.func44,Try.ntmps44
  go_wp2_with (first|refine wpList_exe (kse_e HK 0 _ (by rfl) (by rfl) (by rfl)) (by rfl) ?_|refine wpList_exe (kse_r HK 0 _ (by rfl) (by rfl) (by rfl)) (by rfl) ?_|refine wpList_exe (kse_d HK 0 _ (by rfl) (by rfl) (by rfl)) (by rfl) ?_|refine wpList_exe (kse_l HK 0 _ (by rfl) (by rfl) (by rfl)) (by rfl) ?_|refine wpList_exe (kse_p HK 0 _ (by rfl) (by rfl) (by rfl)) (by rfl) ?_|refine wpList_exe (exec_iLe (m:=ep) (n:=0) _ _ (by rfl) (by rfl) (by rfl) H1.out) (by rfl) ?_|refine wpList_exe (exec_iL (m:=rq) (n:=0) _ _ (by rfl) (by rfl) (by rfl) H2.out) (by rfl) ?_|refine wpList_exe (exec_iG (m:=rq) (n:=0) _ _ (by rfl) (by rfl) (by rfl) H4.out) (by rfl) ?_|refine wpList_exe (exec_rz (by rfl)) (by rfl) ?_|refine wpList_exe (exec_rpe (p:=p) (q:=Sto.rz) _ _ (by rfl) (by rfl) (by rfl) H5.out) (by rfl) ?_)
  go_ret
  exact⟨rfl,HK.out.b⟩
 cases b2
 case false=>
  go_enter Try.func44,Try.ntmps44
  go_wp2_with (first|refine wpList_exe (kse_e HK 0 _ (by rfl) (by rfl) (by rfl)) (by rfl) ?_|refine wpList_exe (kse_r HK 0 _ (by rfl) (by rfl) (by rfl)) (by rfl) ?_|refine wpList_exe (kse_d HK 0 _ (by rfl) (by rfl) (by rfl)) (by rfl) ?_|refine wpList_exe (kse_l HK 0 _ (by rfl) (by rfl) (by rfl)) (by rfl) ?_|refine wpList_exe (kse_p HK 0 _ (by rfl) (by rfl) (by rfl)) (by rfl) ?_|refine wpList_exe (exec_iLe (m:=ep) (n:=0) _ _ (by rfl) (by rfl) (by rfl) H1.out) (by rfl) ?_|refine wpList_exe (exec_iL (m:=rq) (n:=0) _ _ (by rfl) (by rfl) (by rfl) H2.out) (by rfl) ?_|refine wpList_exe (exec_iG (m:=rq) (n:=0) _ _ (by rfl) (by rfl) (by rfl) H4.out) (by rfl) ?_|refine wpList_exe (exec_rz (by rfl)) (by rfl) ?_|refine wpList_exe (exec_rpe (p:=p) (q:=Sto.rz) _ _ (by rfl) (by rfl) (by rfl) H5.out) (by rfl) ?_)
  go_ret
  exact⟨rfl,HK.out.b⟩
 cases b3
 case false=>
  go_enter Try.func44,Try.ntmps44
  go_wp2_with (first|refine wpList_exe (kse_e HK 0 _ (by rfl) (by rfl) (by rfl)) (by rfl) ?_|refine wpList_exe (kse_r HK 0 _ (by rfl) (by rfl) (by rfl)) (by rfl) ?_|refine wpList_exe (kse_d HK 0 _ (by rfl) (by rfl) (by rfl)) (by rfl) ?_|refine wpList_exe (kse_l HK 0 _ (by rfl) (by rfl) (by rfl)) (by rfl) ?_|refine wpList_exe (kse_p HK 0 _ (by rfl) (by rfl) (by rfl)) (by rfl) ?_|refine wpList_exe (exec_iLe (m:=ep) (n:=0) _ _ (by rfl) (by rfl) (by rfl) H1.out) (by rfl) ?_|refine wpList_exe (exec_iL (m:=rq) (n:=0) _ _ (by rfl) (by rfl) (by rfl) H2.out) (by rfl) ?_|refine wpList_exe (exec_iG (m:=rq) (n:=0) _ _ (by rfl) (by rfl) (by rfl) H4.out) (by rfl) ?_|refine wpList_exe (exec_rz (by rfl)) (by rfl) ?_|refine wpList_exe (exec_rpe (p:=p) (q:=Sto.rz) _ _ (by rfl) (by rfl) (by rfl) H5.out) (by rfl) ?_)
  refine(HC.out _).mono ?_;rintro e w1 ⟨rfl,b1⟩
  replace HK:=hkC HK b1;clear b1
  go_wp2_with (first|refine wpList_exe (kse_e HK 0 _ (by rfl) (by rfl) (by rfl)) (by rfl) ?_|refine wpList_exe (kse_r HK 0 _ (by rfl) (by rfl) (by rfl)) (by rfl) ?_|refine wpList_exe (kse_d HK 0 _ (by rfl) (by rfl) (by rfl)) (by rfl) ?_|refine wpList_exe (kse_l HK 0 _ (by rfl) (by rfl) (by rfl)) (by rfl) ?_|refine wpList_exe (kse_p HK 0 _ (by rfl) (by rfl) (by rfl)) (by rfl) ?_|refine wpList_exe (exec_iLe (m:=ep) (n:=0) _ _ (by rfl) (by rfl) (by rfl) H1.out) (by rfl) ?_|refine wpList_exe (exec_iL (m:=rq) (n:=0) _ _ (by rfl) (by rfl) (by rfl) H2.out) (by rfl) ?_|refine wpList_exe (exec_iG (m:=rq) (n:=0) _ _ (by rfl) (by rfl) (by rfl) H4.out) (by rfl) ?_|refine wpList_exe (exec_rz (by rfl)) (by rfl) ?_|refine wpList_exe (exec_rpe (p:=p) (q:=Sto.rz) _ _ (by rfl) (by rfl) (by rfl) H5.out) (by rfl) ?_)
  go_ret
  exact⟨rfl,HK.out.b⟩
 cases dn
 case true=>
  go_enter Try.func44,Try.ntmps44
  go_wp2_with (first|refine wpList_exe (kse_e HK 0 _ (by rfl) (by rfl) (by rfl)) (by rfl) ?_|refine wpList_exe (kse_r HK 0 _ (by rfl) (by rfl) (by rfl)) (by rfl) ?_|refine wpList_exe (kse_d HK 0 _ (by rfl) (by rfl) (by rfl)) (by rfl) ?_|refine wpList_exe (kse_l HK 0 _ (by rfl) (by rfl) (by rfl)) (by rfl) ?_|refine wpList_exe (kse_p HK 0 _ (by rfl) (by rfl) (by rfl)) (by rfl) ?_|refine wpList_exe (exec_iLe (m:=ep) (n:=0) _ _ (by rfl) (by rfl) (by rfl) H1.out) (by rfl) ?_|refine wpList_exe (exec_iL (m:=rq) (n:=0) _ _ (by rfl) (by rfl) (by rfl) H2.out) (by rfl) ?_|refine wpList_exe (exec_iG (m:=rq) (n:=0) _ _ (by rfl) (by rfl) (by rfl) H4.out) (by rfl) ?_|refine wpList_exe (exec_rz (by rfl)) (by rfl) ?_|refine wpList_exe (exec_rpe (p:=p) (q:=Sto.rz) _ _ (by rfl) (by rfl) (by rfl) H5.out) (by rfl) ?_)
  refine(HC.out _).mono ?_;rintro e w1 ⟨rfl,b1⟩
  replace HK:=hkC HK b1;clear b1
  have k3:=HK.out.cell 0 rfl 3 (v:=.bool true) rfl
  go_wp2_with fail
  go_ret
  exact⟨rfl,HK.out.b⟩
 cases l
 case false=>
  go_enter Try.func44,Try.ntmps44
  go_wp2_with (first|refine wpList_exe (kse_e HK 0 _ (by rfl) (by rfl) (by rfl)) (by rfl) ?_|refine wpList_exe (kse_r HK 0 _ (by rfl) (by rfl) (by rfl)) (by rfl) ?_|refine wpList_exe (kse_d HK 0 _ (by rfl) (by rfl) (by rfl)) (by rfl) ?_|refine wpList_exe (kse_l HK 0 _ (by rfl) (by rfl) (by rfl)) (by rfl) ?_|refine wpList_exe (kse_p HK 0 _ (by rfl) (by rfl) (by rfl)) (by rfl) ?_|refine wpList_exe (exec_iLe (m:=ep) (n:=0) _ _ (by rfl) (by rfl) (by rfl) H1.out) (by rfl) ?_|refine wpList_exe (exec_iL (m:=rq) (n:=0) _ _ (by rfl) (by rfl) (by rfl) H2.out) (by rfl) ?_|refine wpList_exe (exec_iG (m:=rq) (n:=0) _ _ (by rfl) (by rfl) (by rfl) H4.out) (by rfl) ?_|refine wpList_exe (exec_rz (by rfl)) (by rfl) ?_|refine wpList_exe (exec_rpe (p:=p) (q:=Sto.rz) _ _ (by rfl) (by rfl) (by rfl) H5.out) (by rfl) ?_)
  refine(HC.out _).mono ?_;rintro e w1 ⟨rfl,b1⟩
  replace HK:=hkC HK b1;clear b1
  go_wp2_with (first|refine wpList_exe (kse_d HK 0 _ (by rfl) (by rfl) (by rfl)) (by rfl) ?_|refine wpList_exe (kse_l HK 0 _ (by rfl) (by rfl) (by rfl)) (by rfl) ?_)
  go_ret
  exact⟨rfl,HK.out.b⟩
 cases b4
 case false=>
  go_enter Try.func44,Try.ntmps44
  go_wp2_with (first|refine wpList_exe (kse_e HK 0 _ (by rfl) (by rfl) (by rfl)) (by rfl) ?_|refine wpList_exe (kse_r HK 0 _ (by rfl) (by rfl) (by rfl)) (by rfl) ?_|refine wpList_exe (kse_d HK 0 _ (by rfl) (by rfl) (by rfl)) (by rfl) ?_|refine wpList_exe (kse_l HK 0 _ (by rfl) (by rfl) (by rfl)) (by rfl) ?_|refine wpList_exe (kse_p HK 0 _ (by rfl) (by rfl) (by rfl)) (by rfl) ?_|refine wpList_exe (exec_iLe (m:=ep) (n:=0) _ _ (by rfl) (by rfl) (by rfl) H1.out) (by rfl) ?_|refine wpList_exe (exec_iL (m:=rq) (n:=0) _ _ (by rfl) (by rfl) (by rfl) H2.out) (by rfl) ?_|refine wpList_exe (exec_iG (m:=rq) (n:=0) _ _ (by rfl) (by rfl) (by rfl) H4.out) (by rfl) ?_|refine wpList_exe (exec_rz (by rfl)) (by rfl) ?_|refine wpList_exe (exec_rpe (p:=p) (q:=Sto.rz) _ _ (by rfl) (by rfl) (by rfl) H5.out) (by rfl) ?_)
  refine(HC.out _).mono ?_;rintro e w1 ⟨rfl,b1⟩
  replace HK:=hkC HK b1;clear b1
  go_wp2_with (first|refine wpList_exe (kse_d HK 0 _ (by rfl) (by rfl) (by rfl)) (by rfl) ?_|refine wpList_exe (kse_l HK 0 _ (by rfl) (by rfl) (by rfl)) (by rfl) ?_|refine wpList_exe (kse_r HK 0 _ (by rfl) (by rfl) (by rfl)) (by rfl) ?_|refine wpList_exe (exec_iG (m:=rq) (n:=0) _ _ (by rfl) (by rfl) (by rfl) H4.out) (by rfl) ?_)
  go_ret
  exact⟨rfl,HK.out.b⟩
 go_enter Try.func44,Try.ntmps44
 go_wp2_with (first|refine wpList_exe (kse_e HK 0 _ (by rfl) (by rfl) (by rfl)) (by rfl) ?_|refine wpList_exe (kse_r HK 0 _ (by rfl) (by rfl) (by rfl)) (by rfl) ?_|refine wpList_exe (kse_d HK 0 _ (by rfl) (by rfl) (by rfl)) (by rfl) ?_|refine wpList_exe (kse_l HK 0 _ (by rfl) (by rfl) (by rfl)) (by rfl) ?_|refine wpList_exe (kse_p HK 0 _ (by rfl) (by rfl) (by rfl)) (by rfl) ?_|refine wpList_exe (exec_iLe (m:=ep) (n:=0) _ _ (by rfl) (by rfl) (by rfl) H1.out) (by rfl) ?_|refine wpList_exe (exec_iL (m:=rq) (n:=0) _ _ (by rfl) (by rfl) (by rfl) H2.out) (by rfl) ?_|refine wpList_exe (exec_iG (m:=rq) (n:=0) _ _ (by rfl) (by rfl) (by rfl) H4.out) (by rfl) ?_|refine wpList_exe (exec_rz (by rfl)) (by rfl) ?_|refine wpList_exe (exec_rpe (p:=p) (q:=Sto.rz) _ _ (by rfl) (by rfl) (by rfl) H5.out) (by rfl) ?_)
 refine(HC.out _).mono ?_;rintro e w1 ⟨rfl,b1⟩
 replace HK:=hkC HK b1;clear b1
 go_wp2_with (first|refine wpList_exe (kse_e HK 0 _ (by rfl) (by rfl) (by rfl)) (by rfl) ?_|refine wpList_exe (kse_r HK 0 _ (by rfl) (by rfl) (by rfl)) (by rfl) ?_|refine wpList_exe (kse_d HK 0 _ (by rfl) (by rfl) (by rfl)) (by rfl) ?_|refine wpList_exe (kse_l HK 0 _ (by rfl) (by rfl) (by rfl)) (by rfl) ?_|refine wpList_exe (kse_p HK 0 _ (by rfl) (by rfl) (by rfl)) (by rfl) ?_|refine wpList_exe (exec_iLe (m:=ep) (n:=0) _ _ (by rfl) (by rfl) (by rfl) H1.out) (by rfl) ?_|refine wpList_exe (exec_iL (m:=rq) (n:=0) _ _ (by rfl) (by rfl) (by rfl) H2.out) (by rfl) ?_|refine wpList_exe (exec_iG (m:=rq) (n:=0) _ _ (by rfl) (by rfl) (by rfl) H4.out) (by rfl) ?_|refine wpList_exe (exec_rz (by rfl)) (by rfl) ?_|refine wpList_exe (exec_rpe (p:=p) (q:=Sto.rz) _ _ (by rfl) (by rfl) (by rfl) H5.out) (by rfl) ?_)
 go_ret
 exact⟨rfl,HK.out.b⟩
theorem slive_any(t:Ses.T)(w:World):Calls Try.prog 45 #[.agg (tbA t)] w (IsInt (Ses.live t (-1)) w):=by
 rw[← Ses.cnt5]
 have HK:=kn1 w 31 (tbA t)
 unfold IsInt
 go_enter Try.func45,Try.ntmps45
 go_wp2_with (first|refine wpList_exe (ktb HK 0 _ (by rfl) (by rfl) (by rfl)) (by rfl) ?_)
 go_loopw [3,7] (fun v3 v7 wr=>∃k:Nat,k≤5∧v3=.int .i64 (Ses.cnt t (-1) k)∧v7=.int .i64 k∧Hid (Kn w.heap.size w wr [(w.heap.size,31,tbA t)] [])) (fun _ v7 _=>5-(intOf v7).toNat)
 case atStart=>exact⟨0,Nat.zero_le _,rfl,rfl,HK⟩
 case round=>
  clear HK
  obtain⟨k,hk,rfl,rfl,HK⟩:=hrel
  have hk1:(0:Int)≤(k:Int):=by omega
  by_cases hlt:k<5
  ·have hk2:(k:Int)<(5:Int):=by omega
   have hk3:k<9223372036854775807:=by omega
   have hc:0≤(k:Int)∧(k:Int)<5:=⟨hk1,hk2⟩
   have hcn:=Ses.cnt_le t (-1) k
   have hW:IntKind.i64.wrap (Ses.cnt t (-1) k+1)=Ses.cnt t (-1) k+1:=by rw[IntKind.wrap_i64];omega
   have hS:Ses.cnt t (-1) (k+1)=Ses.cnt t (-1) k+Ses.b2i (t.get (k:Int)).live:=by
    show _+Ses.b2i (_&&!decide ((k:Int) = -1))=_
    rw[decide_eq_false (by omega)]
    simp
   have HW:=zH hW
   have HS:=zH hS
   clear hW hS hcn
   generalize Ses.cnt t (-1) k=z at *
   generalize hs:t.get (k:Int)=s at *
   have HI:Hid (t.get (k:Int)=s):=zH hs
   clear hs
   obtain⟨l,ep,rq,dn,p⟩:=s
   cases l
   ·go_wp2_with (first|refine wpList_exe ((exec_ixs (t:=t) hc _ _ (by rfl) (by rfl) (by rfl)).trans (by rw[HI.out])) (by rfl) ?_|(refine wpList_ase HK rfl rfl ?_;intro _ g1 HK';simp only[lcA,lnA] at HK';replace HK:=HK';clear HK')|(refine wpList_sse (u:=⟨false,ep,rq,dn,p⟩) HK 1 rfl _ _ rfl rfl rfl rfl ?_;intro _ HK';simp only[List.set] at HK';replace HK:=HK';clear HK')|refine wpList_exe (kse_l HK 1 _ (by rfl) (by rfl) (by rfl)) (by rfl) ?_|refine wpList_exe (exec_incz (m:=z) _ (by rfl) (by rfl) HW.out) (by rfl) ?_|refine wpList_exe (exec_add1 (j:=k) _ (by rfl) (by rfl) hk3) (by rfl) ?_)
    exact⟨⟨k+1,hlt,by rw[HS.out];simp[Ses.b2i],rfl,zH (HK.out.takeL 1)⟩,by simp[intOf];omega⟩
   ·go_wp2_with (first|refine wpList_exe ((exec_ixs (t:=t) hc _ _ (by rfl) (by rfl) (by rfl)).trans (by rw[HI.out])) (by rfl) ?_|(refine wpList_ase HK rfl rfl ?_;intro _ g1 HK';simp only[lcA,lnA] at HK';replace HK:=HK';clear HK')|(refine wpList_sse (u:=⟨true,ep,rq,dn,p⟩) HK 1 rfl _ _ rfl rfl rfl rfl ?_;intro _ HK';simp only[List.set] at HK';replace HK:=HK';clear HK')|refine wpList_exe (kse_l HK 1 _ (by rfl) (by rfl) (by rfl)) (by rfl) ?_|refine wpList_exe (exec_incz (m:=z) _ (by rfl) (by rfl) HW.out) (by rfl) ?_|refine wpList_exe (exec_add1 (j:=k) _ (by rfl) (by rfl) hk3) (by rfl) ?_)
    exact⟨⟨k+1,hlt,by rw[HS.out];simp[Ses.b2i],rfl,zH (HK.out.takeL 1)⟩,by simp[intOf];omega⟩
  ·obtain rfl:k=5:=by omega
   go_wp2_with fail
   go_ret
   exact⟨rfl,HK.out.b⟩
theorem slast_any(s:Ses.S)(w:World):Calls Try.prog 47 #[.agg (seA s)] w (IsInt (if s.dn=true then 2 else 3) w):=by
 obtain⟨l,ep,rq,dn,p⟩:=s
 have HK:=kn1 w 30 (seA ⟨l,ep,rq,dn,p⟩)
 unfold IsInt
 cases dn
 ·go_enter Try.func47,Try.ntmps47
  go_wp2_with (first|refine wpList_exe (kse_d HK 0 _ (by rfl) (by rfl) (by rfl)) (by rfl) ?_)
  go_ret
  exact⟨rfl,HK.out.b⟩
 ·go_enter Try.func47,Try.ntmps47
  go_wp2_with (first|refine wpList_exe (kse_d HK 0 _ (by rfl) (by rfl) (by rfl)) (by rfl) ?_)
  go_ret
  exact⟨rfl,HK.out.b⟩
end
section
open Go.RowKit
theorem sright_any(t:Ses.T)(w:World)(hf:Ses.Fit t):Calls Try.prog 19 #[.agg (tbA t)] w (IsB (decide (Ses.Right t)) w):=by
 have HYes:=zH (Ses.right_all t)
 have HNo:=zH (fun(c:Int) hc=>Ses.right_no (t:=t) (c:=c) hc)
 have HL:=zH (fun W=>slive_any t W)
 have HF:=zH hf
 have HK:=kn1 w 31 (tbA t)
 unfold IsB
 unfold IsInt at HL
 clear hf
 generalize decide (Ses.Right t)=r at *
 go_enter Try.func19,Try.ntmps19
 go_wp2_with (first|refine wpList_exe (ktb HK 0 _ (by rfl) (by rfl) (by rfl)) (by rfl) ?_)
 go_loopw [6] (fun v6 wr=>∃k:Nat,k≤5∧v6=.int .i64 k∧Hid (∀c:Int,0≤c∧c<(k:Int)→Ses.one (t.get c)=true)∧Hid (Kn w.heap.size w wr [(w.heap.size,31,tbA t)] [])) (fun v6 _=>5-(intOf v6).toNat)
 case atStart=>exact⟨0,Nat.zero_le _,rfl,zH (fun c hc=>by omega),HK⟩
 case round=>
  clear HK
  obtain⟨k,hk,rfl,HGo,HK⟩:=hrel
  have hk1:(0:Int)≤(k:Int):=by omega
  by_cases hlt:k<5
  ·have hk2:(k:Int)<(5:Int):=by omega
   have hk3:k<9223372036854775807:=by omega
   have hc:0≤(k:Int)∧(k:Int)<5:=⟨hk1,hk2⟩
   have HN:=zH (HNo.out (k:Int) hc)
   have HC:=zH (fun W=>ssound_any (t.get (k:Int)) W (HF.out _ hc))
   have HOne:=zH (Ses.one_snd (t.get (k:Int)))
   have HGk:Hid (Ses.one (t.get (k:Int))=true→∀c:Int,0≤c∧c<((k+1:Nat):Int)→Ses.one (t.get c)=true):=zH fun h c hc=>by
    by_cases e:c=(k:Int)
    ·rw[e];exact h
    ·exact HGo.out c (by omega)
   generalize hs:t.get (k:Int)=s at *
   have HI:Hid (t.get (k:Int)=s):=zH hs
   clear hs
   unfold IsB at HC
   generalize h0:decide (s=Ses.z)=b0 at *
   have H0:Hid ((!decide (s=Ses.z))=!b0):=zH (by rw[h0])
   clear h0
   generalize Ses.snd s=b1 at *
   cases b0
   ·cases b1
    ·have HR:=zH (HN.out (by rw[HOne.out];rfl))
     clear HGk HOne HN
     go_wp2_with (first|refine wpList_exe ((exec_ixs (t:=t) hc _ _ (by rfl) (by rfl) (by rfl)).trans (by rw[HI.out])) (by rfl) ?_|(refine wpList_ase HK rfl rfl ?_;intro _ g1 HK';simp only[lcA,lnA] at HK';replace HK:=HK';clear HK')|(refine wpList_sse (u:=s) HK 1 rfl _ _ rfl rfl rfl rfl ?_;intro _ HK';simp only[List.set] at HK';replace HK:=HK';clear HK')|refine wpList_exe (kse HK 1 _ (by rfl) (by rfl) (by rfl)) (by rfl) ?_|refine wpList_exe (exec_bz (by rfl)) (by rfl) ?_|refine wpList_exe (exec_seN (s:=s) (u:=Ses.z) _ _ (by rfl) (by rfl) (by rfl) H0.out) (by rfl) ?_)
     refine(HC.out _).mono ?_;rintro e w1 ⟨rfl,b1⟩
     replace HK:=hkC HK b1;clear b1
     go_wp2_with fail
     go_ret
     exact⟨by rw[HR.out]<;>rfl,HK.out.b⟩
    ·replace HGk:=zH (HGk.out (by rw[HOne.out];rfl))
     clear HOne HN
     go_wp2_with (first|refine wpList_exe ((exec_ixs (t:=t) hc _ _ (by rfl) (by rfl) (by rfl)).trans (by rw[HI.out])) (by rfl) ?_|(refine wpList_ase HK rfl rfl ?_;intro _ g1 HK';simp only[lcA,lnA] at HK';replace HK:=HK';clear HK')|(refine wpList_sse (u:=s) HK 1 rfl _ _ rfl rfl rfl rfl ?_;intro _ HK';simp only[List.set] at HK';replace HK:=HK';clear HK')|refine wpList_exe (kse HK 1 _ (by rfl) (by rfl) (by rfl)) (by rfl) ?_|refine wpList_exe (exec_bz (by rfl)) (by rfl) ?_|refine wpList_exe (exec_seN (s:=s) (u:=Ses.z) _ _ (by rfl) (by rfl) (by rfl) H0.out) (by rfl) ?_)
     refine(HC.out _).mono ?_;rintro e w1 ⟨rfl,b1⟩
     replace HK:=hkC HK b1;clear b1
     go_wp2_with (first|refine wpList_exe (exec_add1 (j:=k) _ (by rfl) (by rfl) hk3) (by rfl) ?_)
     exact⟨⟨k+1,hlt,rfl,HGk,zH (HK.out.takeL 1)⟩,by simp[intOf];omega⟩
   ·replace HGk:=zH (HGk.out (by rw[HOne.out];rfl))
    clear HOne HN
    go_wp2_with (first|refine wpList_exe ((exec_ixs (t:=t) hc _ _ (by rfl) (by rfl) (by rfl)).trans (by rw[HI.out])) (by rfl) ?_|(refine wpList_ase HK rfl rfl ?_;intro _ g1 HK';simp only[lcA,lnA] at HK';replace HK:=HK';clear HK')|(refine wpList_sse (u:=s) HK 1 rfl _ _ rfl rfl rfl rfl ?_;intro _ HK';simp only[List.set] at HK';replace HK:=HK';clear HK')|refine wpList_exe (kse HK 1 _ (by rfl) (by rfl) (by rfl)) (by rfl) ?_|refine wpList_exe (exec_bz (by rfl)) (by rfl) ?_|refine wpList_exe (exec_seN (s:=s) (u:=Ses.z) _ _ (by rfl) (by rfl) (by rfl) H0.out) (by rfl) ?_|refine wpList_exe (exec_add1 (j:=k) _ (by rfl) (by rfl) hk3) (by rfl) ?_)
    exact⟨⟨k+1,hlt,rfl,HGk,zH (HK.out.takeL 1)⟩,by simp[intOf];omega⟩
  ·obtain rfl:k=5:=by omega
   have HR:=zH (HYes.out HGo.out)
   go_wp2_with (first|refine wpList_exe (ktb HK 0 _ (by rfl) (by rfl) (by rfl)) (by rfl) ?_)
   refine(HL.out _).mono ?_;rintro e w1 ⟨rfl,b1⟩
   replace HK:=hkC HK b1;clear b1
   generalize Ses.live t (-1)=z at *
   go_wp2_with (first|refine wpList_exe (exec_iLe (m:=z) (n:=4) _ _ (by rfl) (by rfl) (by rfl) HR.out.symm) (by rfl) ?_)
   go_ret
   exact⟨rfl,HK.out.b⟩
end
section
namespace Ses
def lookB(b1 b2 b3 b4 b5 l b6 d:Bool):Int:=if (b1&&b2)=true then 1 else if (b3 || b4)=true then 5 else if b5=true then (if d=true then 2 else 3) else if l=false then 4 else if (b6&&d)=true then 1 else 5
theorem look_b(s:S)(r:Rf):lookS s r=lookB (decide (r.r=0)) (decide (s.ep<r.e)) (!decide (r.e=s.ep)) (decide (r.r<s.rq)) (decide (r.r=s.rq)) s.live (decide (r.r-1=s.rq)) s.dn:=by
 unfold lookS lookB
 congr 1
 ·simp
 ·congr 1
  ·simp
  ·simp
def lookW(t:T)(r:Rf):Int:=if Lck.ok r∧Right t then lookB (decide (r.r=0)) (decide ((t.get r.c).ep<r.e)) (!decide (r.e=(t.get r.c).ep)) (decide (r.r<(t.get r.c).rq)) (decide (r.r=(t.get r.c).rq)) (t.get r.c).live (decide (IntKind.i64.wrap (r.r-1)=(t.get r.c).rq)) (t.get r.c).dn else 5
theorem lookW_ok{t:T}{r:Rf}(h1:decide (Lck.ok r)=true)(h2:decide (Right t)=true):lookW t r=lookB (decide (r.r=0)) (decide ((t.get r.c).ep<r.e)) (!decide (r.e=(t.get r.c).ep)) (decide (r.r<(t.get r.c).rq)) (decide (r.r=(t.get r.c).rq)) (t.get r.c).live (decide (IntKind.i64.wrap (r.r-1)=(t.get r.c).rq)) (t.get r.c).dn:=if_pos ⟨of_decide_eq_true h1,of_decide_eq_true h2⟩
theorem lookW_no1{t:T}{r:Rf}(h1:decide (Lck.ok r)=false):lookW t r=5:=if_neg fun h=>of_decide_eq_false h1 h.1
theorem lookW_no2{t:T}{r:Rf}(h2:decide (Right t)=false):lookW t r=5:=if_neg fun h=>of_decide_eq_false h2 h.2
theorem lookB_3(b1 b2 b3 b4 b5 l b6 b7 d:Bool):decide (lookB b1 b2 b3 b4 b5 l b6 d=3)=decide (lookB b1 b2 b3 b4 b5 l b7 d=3):=by
 cases b1<;>cases b2<;>cases b3<;>cases b4<;>cases b5<;>cases l<;>cases b6<;>cases b7<;>cases d<;>rfl
theorem lookW_3(t:T)(r:Rf):decide (lookW t r=3)=decide (look t r=3):=by
 unfold lookW look
 by_cases g:Lck.ok r∧Right t
 ·rw[if_pos g,if_pos g,look_b]
  exact lookB_3 ..
 ·rw[if_neg g,if_neg g]
end Ses
end
end Go.Proofs.Ytieoeendnccafaa
