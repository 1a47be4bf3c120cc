/- Objects that may be may be behind a command, and behind a session's end; pure. No condition but those named. -/
import Derived.Test.YtddpmlcpfmmbeaaGreatTk
import Derived.Test.YtddpmlcpfmmbeaaGreatKAJ
import Derived.Test.YtddpmlcpfmmbeaaGreatKAI
import Derived.Test.YtddpmlcpfmmbeaaGreatKAH
set_option linter.unusedSimpArgs false
set_option linter.unusedVariables false
set_option maxRecDepth 100000
set_option maxHeartbeats 25600000
namespace Go.Proofs.YtddpmlcpfmmbeaaGreat
section
open Go.RowKit
def otL(x:Sto.Ot):List Value:=[.int .i64 x.r.c,.int .i64 x.r.e,.int .i64 x.r.r,.int .i64 x.p.e,.int .i64 x.p.v.k,.int .i64 x.p.v.n,.int .u64 (x.p.v.f:Int),.string x.p.v.s]
def otA(x:Sto.Ot):Array Value:=#[.int .i64 x.r.c,.int .i64 x.r.e,.int .i64 x.r.r,.int .i64 x.p.e,.int .i64 x.p.v.k,.int .i64 x.p.v.n,.int .u64 (x.p.v.f:Int),.string x.p.v.s]
def otZ:Sto.Ot:=⟨⟨0,0,0⟩,Sto.rz⟩
theorem info_otl:(Tryz.prog.info? 64).map (fun i=>(i.zero,i.size,i.bytes))=some (some (Value.agg (otA otZ)),8,72):=by kernel_rfl
theorem info_ot:(Tryz.prog.info? 64).map (·.size)=some 8:=by kernel_rfl
def otLay:Lay Tryz.prog Sto.Ot where
 t:=41
 e:=64
 k:=8
 bytes:=72
 z:=.agg (otA otZ)
 f:=otL
 len:=fun _=>rfl
 one:=fun x u hu=>by
  unfold otL at hu
  simp only[List.mem_cons,List.not_mem_nil,or_false] at hu
  rcases hu with rfl|rfl|rfl|rfl|rfl|rfl|rfl|rfl<;>rfl
 und:=Tryz.underlying41
 info:=info_otl
 zs:=rfl
 pos:=by decide
 small:=by decide
def tF(_:Sto.Ot):Prop:=True
section
variable {b0:Nat}{w0 w:World}{L:List (Nat×TypeId×Array Value)}{R:List RowE}{ops:Array Oper}{rest:List Oper}{o:Oper}{a:Act}{Q:Exit→Act→World→Prop}{K:Act→World→Prop}{E:Prop}{g:Nat}{x y:Oh}{p q:Sto.Rp}{t u:Bool}{A B:Option Addr}{n c m d:Nat}
theorem step_aoc(HK:Hid (Kn b0 w0 w L R))(hgd:o.guard=none)(ho:o.op=.alloc 158)
  (h:∀w' g,Hid (Kn b0 w0 w' (L++[(g,158,ocA ohZ Sto.rz false none 0 0)]) R)→Hid (Below w.heap.size w w')→K (a.put o.dst (.pointer (some ⟨g,0,none⟩))) w'):if Region.wanted o (yielded ops a.tmps)=true then Oper.wp Tryz.prog o a w K Q else E:=by
 rw[if_pos (by simp[Region.wanted,hgd])]
 have h4:=h _ w.heap.size (zH (HK.out.alloc _ _)) (zH ((Below.refl _ w).alloc (Nat.le_refl _) _))
 unfold Oper.wp execOp
 simp only[ho]
 unfold ocA ohZ Sto.rz Mt.zero at h4
 go_simp
 exact h4
theorem kwp_soc(HK:Hid (Kn b0 w0 w L R))(i:Nat)(r s:Operand)(ho:o.op=.store 158 r s)(hL:L[i]?=some (g,158,ocA x p t A n c))(hx:a.eval r=.pointer (some ⟨g,0,none⟩))(hy:a.eval s=.agg (ocA y q u B m d))
  (h:∀w',Hid (Kn b0 w0 w' (L.set i (g,158,ocA y q u B m d)) R)→K (a.put o.dst undef) w'):o.wp Tryz.prog a w K Q:=
 kwp_ss HK _ r s ho i hL hx hy (by show 18≤18;decide) info_oc (by simp[ocA,Value.oneCell']) fun w' h1 _=>h w' (by
  have e:putCells (ocA x p t A n c) 0 (ocA y q u B m d).toList=ocA y q u B m d:=by rw[putCells_all (vs:=(ocA y q u B m d).toList) (cs:=ocA x p t A n c) rfl,Array.toArray_toList]
  rw[e] at h1
  exact h1)
theorem wpList_soc(HK:Hid (Kn b0 w0 w L R))(i:Nat)(hgd:o.guard=none)(r s:Operand)(ho:o.op=.store 158 r s)(hL:L[i]?=some (g,158,ocA x p t A n c))(hx:a.eval r=.pointer (some ⟨g,0,none⟩))(hy:a.eval s=.agg (ocA y q u B m d))
  (h:∀w',Hid (Kn b0 w0 w' (L.set i (g,158,ocA y q u B m d)) R)→wpList Tryz.prog ops Q rest (a.put o.dst undef) w'):wpList Tryz.prog ops Q (o::rest) a w:=
 wpList_plain hgd fun _ hK=>kwp_soc HK i r s ho hL hx hy fun w' h1=>hK _ _ (h w' h1)
theorem step_soc(HK:Hid (Kn b0 w0 w L R))(i:Nat)(hgd:o.guard=none)(r s:Operand)(ho:o.op=.store 158 r s)(hL:L[i]?=some (g,158,ocA x p t A n c))(hx:a.eval r=.pointer (some ⟨g,0,none⟩))(hy:a.eval s=.agg (ocA y q u B m d))
  (h:∀w',Hid (Kn b0 w0 w' (L.set i (g,158,ocA y q u B m d)) R)→K (a.put o.dst undef) w'):if Region.wanted o (yielded ops a.tmps)=true then Oper.wp Tryz.prog o a w K Q else E:=by
 rw[if_pos (by simp[Region.wanted,hgd])]
 exact kwp_soc HK i r s ho hL hx hy h
theorem koc_o(HK:Hid (Kn b0 w0 w L R))(i:Nat)(r:Operand)(ho:o.op=.load 60 r)(hL:L[i]?=some (g,158,ocA x p t A n c))(hx:a.eval r=.pointer (some ⟨g,0,none⟩)):
  (execOp a.eval o).run Tryz.prog w=.ok (.value (.agg (obA x))) w:=
 kexec_ls HK _ r ho i hL hx (obA x) (fun j hj=>by
  have hj:j<11:=hj
  match j,hj with
  | 0,_|1,_|2,_|3,_|4,_|5,_|6,_|7,_|8,_|9,_|10,_=>rfl) Tryz.underlying60 info_ob
theorem koc_p(HK:Hid (Kn b0 w0 w L R))(i:Nat)(r:Operand)(ho:o.op=.load 28 r)(hL:L[i]?=some (g,158,ocA x p t A n c))(hx:a.eval r=.pointer (some ⟨g,11,none⟩)):
  (execOp a.eval o).run Tryz.prog w=.ok (.value (.agg (rpA p))) w:=
 kexec_ls HK _ r ho i hL hx (rpA p) (fun j hj=>by
  have hj:j<5:=hj
  match j,hj with
  | 0,_|1,_|2,_|3,_|4,_=>rfl) Tryz.underlying28 info_rp
theorem koc_t(HK:Hid (Kn b0 w0 w L R))(i:Nat)(r:Operand)(ho:o.op=.load 4 r)(hL:L[i]?=some (g,158,ocA x p t A n c))(hx:a.eval r=.pointer (some ⟨g,16,none⟩)):
  (execOp a.eval o).run Tryz.prog w=.ok (.value (.bool t)) w:=kexec_lc HK _ r ho i hL hx rfl Tryz.underlying4 rfl
theorem koc_s(HK:Hid (Kn b0 w0 w L R))(i:Nat)(r:Operand)(ho:o.op=.load 41 r)(hL:L[i]?=some (g,158,ocA x p t A n c))(hx:a.eval r=.pointer (some ⟨g,17,none⟩)):
  (execOp a.eval o).run Tryz.prog w=.ok (.value (.slice A n c)) w:=kexec_lc HK _ r ho i hL hx rfl Tryz.underlying41 rfl
end
section
variable {w:World}{o:Oper}{a:Act}{p q:Sto.Rp}{r:Rf}
theorem exec_bo1(i:Operand)(ho:o.op=.build 64 #[(0,i)])(hi:a.eval i=.agg #[.int .i64 r.c,.int .i64 r.e,.int .i64 r.r]):
  (execOp a.eval o).run Tryz.prog w=.ok (.value (.agg (otA ⟨r,Sto.rz⟩))) w:=by
 have h:(Instr.build 64 #[(0,.agg #[.int .i64 r.c,.int .i64 r.e,.int .i64 r.r])]).run Tryz.prog w=.ok (.agg (otA ⟨r,Sto.rz⟩)) w:=by
  unfold otA Sto.rz
  go_simp
 unfold execOp
 simp only[ho,Sem.run_bind,Sem.run_pure,Result.andThen_ok,List.map_toArray,List.map_cons,List.map_nil,hi,h]
theorem exec_bo2(i j:Operand)(ho:o.op=.build 64 #[(0,i),(1,j)])(hi:a.eval i=.agg #[.int .i64 r.c,.int .i64 r.e,.int .i64 r.r])(hj:a.eval j=.agg (rpA p)):
  (execOp a.eval o).run Tryz.prog w=.ok (.value (.agg (otA ⟨r,p⟩))) w:=by
 have h:(Instr.build 64 #[(0,.agg #[.int .i64 r.c,.int .i64 r.e,.int .i64 r.r]),(1,.agg (rpA p))]).run Tryz.prog w=.ok (.agg (otA ⟨r,p⟩)) w:=by
  unfold otA rpA
  go_simp
 unfold execOp
 simp only[ho,Sem.run_bind,Sem.run_pure,Result.andThen_ok,List.map_toArray,List.map_cons,List.map_nil,hi,hj,h]
end
section
variable {fn:Func}{R:Ending→World→Prop}{a:Act}{w:World}{B:Nat}{x:Oh}{p:Sto.Rp}{t:Bool}{A:Option Addr}{n c:Nat}{u z y:Value}{q q2 q3 q4:Tmp}
theorem ret_oc(hf:fn.results=#[.cell q 158])(h2:a.tmps[q]?=some (.pointer (some ⟨B,0,none⟩)))(hd:a.defers=[])(hb:Blk w B 158 (ocA x p t A n c))
  (hR:R (.returned (.agg (ocA x p t A n c))) w):bodyPost Tryz.prog fn R Exit.ret a w:=
 bodyPost_ret (results_cell_row hf a.tmps w B _ _ (0,0) _ (by simp[h2]) hb Tryz.underlying158 rfl info_oc) hd hR
theorem ret_do(hf:fn.results=#[.tmp q2,.cell q 28,.tmp q3,.tmp q4])(h2:a.tmps[q]?=some (.pointer (some ⟨B,0,none⟩)))(h3:a.tmps[q2]?=some u)(h4:a.tmps[q3]?=some z)(h5:a.tmps[q4]?=some y)(hd:a.defers=[])(hb:Blk w B 28 (rpA p))
  (hR:R (.returned (.tuple #[u,.agg (rpA p),z,y])) w):bodyPost Tryz.prog fn R Exit.ret a w:=by
 refine bodyPost_ret (v:=.tuple #[u,.agg (rpA p),z,y]) ?_ hd hR
 have h:(loadVar 28 ⟨B,0,none⟩).run Tryz.prog w=.ok (.agg (rpA p)) w:=run_loadVar_row (P:=Tryz.prog) w B _ _ _ (0,0) _ hb Tryz.underlying28 rfl info_rp
 simp[results,hf,asAddr,Sem.run_bind,h2,h3,h4,h5,h]
end
end
section
namespace Sto
theorem own_is{l:List Ob}(h:Up l)(k:ByteArray):((l.drop (idx l k)).take (fin l k-idx l k))[0]?=fnd l k:=by
 obtain⟨_,_,h3,h4⟩:=wo_parts h k
 obtain⟨h5,h6⟩:=fin_le l k
 rw[h3]
 by_cases hq:fin l k=idx l k
 ·rw[if_pos hq,hq,Nat.sub_self];rfl
 ·rw[if_neg hq,show fin l k-idx l k=1 from by omega,List.getElem?_take_of_lt (by decide),List.getElem?_drop]
  rfl
theorem own_some{l:List Ob}(h:Up l)(k:ByteArray):(fnd l k).isSome=decide (0<fin l k-idx l k):=by
 obtain⟨_,_,h3,h4⟩:=wo_parts h k
 obtain⟨h5,h6⟩:=fin_le l k
 rw[h3]
 by_cases hq:fin l k=idx l k
 ·rw[if_pos hq,hq,Nat.sub_self];rfl
 ·rw[if_neg hq,List.getElem?_eq_getElem (by omega)]
  have:0<fin l k-idx l k:=by omega
  simp[this]
theorem chk_arg{l:List Ob}{r:Rf}{c:Cmd.C}(h:¬(Right l∧Lck.ok r∧4≤c.k∧c.k≤17)):chk l r c=1:=if_pos h
theorem chk_cmd{l:List Ob}{r:Rf}{c:Cmd.C}(h:Right l∧Lck.ok r∧4≤c.k∧c.k≤17)(h2:Cmd.chk c≠0):chk l r c=Cmd.chk c:=by unfold chk;rw[if_neg (fun g=>g h),if_pos h2]
theorem chk_new{l:List Ob}{r:Rf}{c:Cmd.C}(h:Right l∧Lck.ok r∧4≤c.k∧c.k≤17)(h2:Cmd.chk c=0)(h3:c.k=4):chk l r c=chkN l c.name:=by unfold chk;rw[if_neg (fun g=>g h),if_neg (fun g=>g h2),if_pos h3]
theorem chk_own{l:List Ob}{r:Rf}{c:Cmd.C}(h:Right l∧Lck.ok r∧4≤c.k∧c.k≤17)(h2:Cmd.chk c=0)(h3:¬c.k=4):chk l r c=chkO (fnd l c.name) c.k:=by unfold chk;rw[if_neg (fun g=>g h),if_neg (fun g=>g h2),if_neg h3]
theorem chk_ok{l:List Ob}{r:Rf}{c:Cmd.C}(h:chk l r c=0):(Right l∧Lck.ok r∧4≤c.k∧c.k≤17)∧Cmd.chk c=0∧(c.k=4→(fnd l c.name).isSome=false∧¬l.length=8)∧(¬c.k=4→∃o,fnd l c.name=some o∧fits c.k o.kind=true∧¬(c.k=5∧0<o.refs.length)):=by
 by_cases g:Right l∧Lck.ok r∧4≤c.k∧c.k≤17
 case neg=>rw[chk_arg g] at h;cases h
 by_cases g2:Cmd.chk c=0
 case neg=>rw[chk_cmd g g2] at h;exact absurd h g2
 refine⟨g,g2,fun g3=>?_,fun g3=>?_⟩
 ·rw[chk_new g g2 g3] at h
  unfold chkN at h
  split at h
  ·cases h
  ·split at h
   ·cases h
   ·rename_i a b;exact⟨Bool.eq_false_iff.2 a,b⟩
 ·rw[chk_own g g2 g3] at h
  cases hf:fnd l c.name with
  | none=>rw[hf] at h;cases h
  | some o=>
   rw[hf] at h
   unfold chkO at h
   simp only at h
   split at h
   ·cases h
   ·split at h
    ·cases h
    ·rename_i a b;exact⟨o,rfl,by cases hx:fits c.k o.kind<;>simp_all,b⟩
end Sto
end
section
namespace Sto
theorem doo_err{l:List Ob}{r:Rf}{c:Cmd.C}(h:chk l r c≠0):doo l r c=⟨l,err (chk l r c),false,[]⟩:=if_pos h
theorem doo_new{l:List Ob}{r:Rf}{c:Cmd.C}(h:chk l r c=0)(h4:c.k=4):doo l r c=⟨put l c.name (fresh c),rz,false,[]⟩:=by unfold doo;rw[if_neg (fun g=>g h),if_pos h4]
theorem doo_cut{l:List Ob}{r:Rf}{c:Cmd.C}(h:chk l r c=0)(h5:c.k=5):doo l r c=⟨wo l c.name,rz,false,[]⟩:=by unfold doo;rw[if_neg (fun g=>g h),if_neg (by omega),if_pos h5]
theorem doo_act{l:List Ob}{r:Rf}{c:Cmd.C}(h:chk l r c=0)(h4:¬c.k=4)(h5:¬c.k=5){o:Ob}(ho:fnd l c.name=some o):doo l r c=⟨put l c.name (act o r c).o,(act o r c).p,(act o r c).later,(act o r c).outs⟩:=by
 unfold doo
 rw[if_neg (fun g=>g h),if_neg h4,if_neg h5,ho]
theorem fnd_is{l:List Ob}{k:ByteArray}{o:Ob}(h:fnd l k=some o):o∈l∧o.name=k:=by
 induction l with
 | nil=>cases h
 | cons x r ih=>
  unfold fnd at h
  split at h
  next hx=>injection h with h;subst h;exact⟨List.mem_cons_self ..,hx⟩
  next=>exact⟨List.mem_cons_of_mem _ (ih h).1,(ih h).2⟩
theorem one_parts{o:Ob}(h:One o=true):named o.name∧clean o=true∧sound o=true:=by
 unfold One at h
 simp only[Bool.and_eq_true,decide_eq_true_eq] at h
 exact⟨h.1.1,h.1.2,h.2⟩
theorem round_ok{o:Ob}(h:One o=true)(hk:fits 14 o.kind=true):0≤o.round:=by
 have h3:=(one_parts h).2.2
 have h4:o.kind=4:=by
  unfold fits at hk
  simpa using hk
 unfold sound at h3
 rw[h4] at h3
 simp at h3
 exact h3.2
theorem act_kinds{k:Int}(h:4≤k∧k≤17)(h4:¬k=4)(h5:¬k=5):k=6∨k=7∨k=8∨k=9∨k=10∨k=11∨k=12∨k=13∨k=14∨k=15∨k=16∨k=17:=by omega
end Sto
end
section
namespace Sto
def vn:Val.V:=⟨0,0,0,⟨#[]⟩⟩
theorem put_self{l:List Ob}(h:Up l){k:ByteArray}{o:Ob}(ho:fnd l k=some o):put l k o=l:=by
 obtain⟨_,_,h3,h4⟩:=wo_parts h k
 obtain⟨h5,h6⟩:=fin_le l k
 rw[ho] at h3
 by_cases hq:fin l k=idx l k
 ·rw[if_pos hq] at h3;cases h3
 ·rw[if_neg hq] at h3
  have hf:fin l k=idx l k+1:=by omega
  obtain⟨hl,he⟩:=List.getElem?_eq_some_iff.1 h3.symm
  unfold put
  rw[hf,← he,List.append_assoc,List.singleton_append,← List.drop_eq_getElem_cons hl,List.take_append_drop]
theorem wait_name(o:Ob)(r:Rf):(wait o r).o.name=o.name:=by
 unfold wait
 by_cases h1:(Gt.wtA o.cap o.refs r).length=0
 ·rw[if_pos h1]
 ·rw[if_neg h1]
  by_cases h2:o.round=9223372036854775807
  ·rw[if_pos h2]
  ·rw[if_neg h2]
theorem act_name(o:Ob)(r:Rf)(c:Cmd.C):(act o r c).o.name=o.name:=by
 unfold act
 by_cases k12:c.k=12
 ·rw[if_pos k12]
  rfl
 rw[if_neg k12]
 by_cases k13:c.k=13
 ·rw[if_pos k13]
  rfl
 rw[if_neg k13]
 by_cases k14:c.k=14
 ·rw[if_pos k14]
  exact wait_name o r
 rw[if_neg k14]
 by_cases k6:c.k=6
 ·rw[if_pos k6]
 rw[if_neg k6]
 by_cases k7:c.k=7
 ·rw[if_pos k7]
 rw[if_neg k7]
 by_cases k8:c.k=8
 ·rw[if_pos k8]
 rw[if_neg k8]
 by_cases k9:c.k=9
 ·rw[if_pos k9]
 rw[if_neg k9]
 by_cases k10:c.k=10
 ·rw[if_pos k10]
 rw[if_neg k10]
 by_cases k11:c.k=11
 ·rw[if_pos k11]
 rw[if_neg k11]
 by_cases k15:c.k=15
 ·rw[if_pos k15]
 rw[if_neg k15]
 by_cases k16:c.k=16
 ·rw[if_pos k16]
 rw[if_neg k16]
 by_cases k17:c.k=17
 ·rw[if_pos k17]
 rw[if_neg k17]
theorem gt_no{l:List Dct.Pr}{k:ByteArray}(h:Dct.gtE l k≠0):Dct.gtV l k=vn∧Dct.ctL l k=l:=by
 refine⟨?_,if_neg h⟩
 unfold Dct.gtE at h
 unfold Dct.gtV
 split
 ·rename_i hr
  rw[if_pos hr] at h
  cases hf:Dct.fnd l k with
  | none=>rfl
  | some v=>rw[hf] at h;exact absurd rfl h
 ·rfl
theorem sw_no{l:List Dct.Pr}{k:ByteArray}{o v:Val.V}(h:Dct.swE l k o v≠0):Dct.swL l k o v=l∧(Dct.swE l k o v=9∨Dct.swV l k o=vn):=by
 refine⟨if_neg h,?_⟩
 unfold Dct.swE at h ⊢
 unfold Dct.swV
 by_cases hr:Dct.Right l
 ·rw[if_pos hr] at h ⊢
  by_cases ho:Dct.gtV l k=o
  ·exact .inr (if_pos ho)
  ·exact .inl (if_neg ho)
 ·right
  have hg:Dct.gtV l k=vn:=if_neg hr
  split
  ·rfl
  ·exact hg
theorem pp_no{n:Int}{l:List Val.V}(h:Que.ppE n l≠0):Que.ppL n l=l∧Que.ppV n l=vn:=by
 unfold Que.ppE at h
 unfold Que.ppL Que.ppV
 by_cases hr:Que.Right n l
 ·rw[if_pos hr] at h
  rw[if_pos hr,if_pos hr]
  by_cases h0:l.length=0
  ·rw[List.length_eq_zero_iff.1 h0]
   exact⟨rfl,rfl⟩
  ·rw[if_neg h0] at h;exact absurd rfl h
 ·rw[if_neg hr,if_neg hr]
  exact⟨rfl,rfl⟩
theorem ad_no{x:Mtr}(h:Mt.adE x≠0)(b:Nat):Mt.ad x b=x:=by
 by_cases hk:Mt.Ok x
 ·by_cases hn:x.n=9223372036854775807
  ·exact Mt.ad_full hk hn b
  ·exact absurd (Mt.adE_one hk hn) h
 ·exact Mt.ad_bad hk b
theorem rd_none{x:Mtr}{q:Int}(h:(Mt.rd x q).e≠0):(⟨(Mt.rd x q).k,(Mt.rd x q).n,(Mt.rd x q).f,⟨#[]⟩⟩:Val.V)=vn:=by
 by_cases hb:¬Mt.Ok x∨q<0∨3<q
 ·rw[Mt.rd_bad hb];rfl
 have hk:Mt.Ok x:=Decidable.byContradiction fun g=>hb (.inl g)
 have h1:0≤q:=by omega
 have h2:q≤3:=by omega
 by_cases h0:q=0
 ·subst h0;rw[Mt.rd_0 hk] at h;exact absurd rfl h
 by_cases hn:x.n=0
 ·rw[Mt.rd_no hk h1 h2 h0 hn];rfl
 have hq:q=1∨q=2∨q=3:=by omega
 rcases hq with rfl|rfl|rfl
 ·rw[Mt.rd_1 hk hn] at h;exact absurd rfl h
 ·rw[Mt.rd_2 hk hn] at h;exact absurd rfl h
 ·rw[Mt.rd_3 hk hn] at h;exact absurd rfl h
theorem act_no{o:Ob}{r:Rf}{c:Cmd.C}(h:(act o r c).p.e≠0):(act o r c).o=o∧(act o r c).later=false∧(act o r c).outs=[]∧((act o r c).p.e=9∨(act o r c).p.v=vn):=by
 unfold act at h ⊢
 by_cases k12:c.k=12
 ·rw[if_pos k12] at h ⊢
  have h:Lck.tkE o.refs r≠0:=h
  have e:Lck.tkL o.refs r=o.refs:=if_neg h
  unfold take
  rw[e,decide_eq_false h]
  exact⟨rfl,rfl,rfl,.inr rfl⟩
 rw[if_neg k12] at h ⊢
 by_cases k13:c.k=13
 ·rw[if_pos k13] at h ⊢
  have h:Lck.frE o.refs r≠0:=h
  obtain⟨_,e2,e3,e4⟩:=Lck.fr_no (z:=Lck.frE o.refs r) rfl h
  unfold free
  rw[e2,e4]
  exact⟨rfl,rfl,rfl,.inr rfl⟩
 rw[if_neg k13] at h ⊢
 by_cases k14:c.k=14
 ·rw[if_pos k14] at h ⊢
  unfold wait at h ⊢
  split
  next hs=>
   rw[if_pos hs] at h
   have h:Gt.wtE o.cap o.refs r≠0:=h
   obtain⟨_,e2,e3⟩:=Gt.wt_no (z:=Gt.wtE o.cap o.refs r) rfl h
   rw[e2]
   exact⟨rfl,decide_eq_false h,rfl,.inr rfl⟩
  next hs=>
   rw[if_neg hs] at h
   split
   next hm=>exact⟨rfl,rfl,rfl,.inr rfl⟩
   next hm=>rw[if_neg hm] at h;exact absurd rfl h
 rw[if_neg k14] at h ⊢
 by_cases k6:c.k=6
 ·rw[if_pos k6] at h ⊢
  exact⟨rfl,rfl,rfl,.inr (gt_no h).1⟩
 rw[if_neg k6] at h ⊢
 by_cases k7:c.k=7
 ·rw[if_pos k7] at h ⊢
  have h:Dct.ptE o.prs c.key c.val≠0:=h
  have e:Dct.ptL o.prs c.key c.val=o.prs:=if_neg h
  rw[e]
  exact⟨rfl,rfl,rfl,.inr rfl⟩
 rw[if_neg k7] at h ⊢
 by_cases k8:c.k=8
 ·rw[if_pos k8] at h ⊢
  obtain⟨e1,e2⟩:=gt_no h
  rw[e2]
  exact⟨rfl,rfl,rfl,.inr e1⟩
 rw[if_neg k8] at h ⊢
 by_cases k9:c.k=9
 ·rw[if_pos k9] at h ⊢
  obtain⟨e1,e2⟩:=sw_no h
  rw[e1]
  exact⟨rfl,rfl,rfl,e2⟩
 rw[if_neg k9] at h ⊢
 by_cases k10:c.k=10
 ·rw[if_pos k10] at h ⊢
  have h:Que.psE o.cap o.vals c.val≠0:=h
  have e:Que.psL o.cap o.vals c.val=o.vals:=if_neg h
  rw[e]
  exact⟨rfl,rfl,rfl,.inr rfl⟩
 rw[if_neg k10] at h ⊢
 by_cases k11:c.k=11
 ·rw[if_pos k11] at h ⊢
  obtain⟨e1,e2⟩:=pp_no h
  rw[e1]
  exact⟨rfl,rfl,rfl,.inr e2⟩
 rw[if_neg k11] at h ⊢
 by_cases k15:c.k=15
 ·rw[if_pos k15] at h ⊢
  rw[ad_no h]
  exact⟨rfl,rfl,rfl,.inr rfl⟩
 rw[if_neg k15] at h ⊢
 by_cases k16:c.k=16
 ·rw[if_pos k16] at h ⊢
  exact⟨rfl,rfl,rfl,.inr (rd_none h)⟩
 rw[if_neg k16] at h ⊢
 by_cases k17:c.k=17
 ·rw[if_pos k17] at h ⊢;exact absurd rfl h
 ·rw[if_neg k17] at h ⊢;exact absurd rfl h
theorem doo_no{l:List Ob}{r:Rf}{c:Cmd.C}(h:(doo l r c).p.e≠0):(doo l r c).l=l∧(doo l r c).later=false∧(doo l r c).outs=[]∧((doo l r c).p.e=9∨(doo l r c).p.v=vn):=by
 by_cases hc:chk l r c=0
 case neg=>
  rw[doo_err hc]
  exact⟨rfl,rfl,rfl,.inr rfl⟩
 case pos=>
 obtain⟨⟨hR,_,_,_⟩,_,_,hown⟩:=chk_ok hc
 by_cases h4:c.k=4
 ·rw[doo_new hc h4] at h;exact absurd rfl h
 by_cases h5:c.k=5
 ·rw[doo_cut hc h5] at h;exact absurd rfl h
 obtain⟨o,ho,_⟩:=hown h4
 rw[doo_act hc h4 h5 ho] at h ⊢
 obtain⟨e1,e2,e3,e4⟩:=act_no h
 refine⟨?_,e2,e3,e4⟩
 show put l c.name (act o r c).o=l
 rw[e1]
 exact put_self hR.up ho
end Sto
end
section
namespace Sto
def nm:ByteArray:=⟨#[108]⟩
def lk(r:List Rf):Ob:=⟨nm,3,0,[],[],r,0,Mt.zero⟩
end Sto
end
section
namespace Sto
section
variable {l:List Ob}{r:Rf}{c:Cmd.C}{i:Nat}{x:Ob}
theorem name_one{o:Ob}(h:named o.name)(hc:clean o=true)(hs:sound o=true):One o=true:=by
 unfold One
 rw[hc,hs,decide_eq_true h];rfl
end
end Sto
end
section
namespace Mt
theorem S_lt(u v:Nat):Num.S u v<18446744073709551616:=by
 unfold Num.S
 split
 ·rename_i r h
  exact Num.M_lt (Ieee.Format.add_lt _ h)
 ·decide
theorem S_self(u v:Nat):Num.M (Num.S u v)=Num.S u v:=by
 unfold Num.S
 split
 ·exact Num.M_M _
 ·rfl
theorem least_self(a b:Nat):Num.M (least a b)=least a b:=by unfold least;split<;>exact Num.M_M _
theorem most_self(a b:Nat):Num.M (most a b)=most a b:=by unfold most;split<;>exact Num.M_M _
theorem rank_least(a b:Nat):Num.rank (least a b)≤Num.rank a∧Num.rank (least a b)≤Num.rank b:=by
 unfold least;split<;>simp only[Num.rank_M]<;>omega
theorem rank_most(a b:Nat):Num.rank a≤Num.rank (most a b)∧Num.rank b≤Num.rank (most a b):=by
 unfold most;split<;>simp only[Num.rank_M]<;>omega
theorem fit_ad{x:Mtr}{b:Nat}(hf:Fit x)(hb:b<18446744073709551616):Fit (ad x b):=by
 unfold ad
 split
 ·exact hf
 ·split
  ·exact hf
  ·split
   ·exact⟨by show(1:Int)≤_;decide,Num.M_lt hb,Num.M_lt hb,Num.M_lt hb⟩
   ·rename_i h1 h2 h3
    refine⟨?_,S_lt _ _,least_lt hf.2.2.1 (Num.M_lt hb),most_lt hf.2.2.2 (Num.M_lt hb)⟩
    have:=hf.1
    show x.n+1≤_
    omega
structure Inv(l:List Nat)(x:Mtr):Prop where
 n:x.n=(l.length:Int)
 ok:Ok x
 fit:Fit x
 le:∀b∈l,Num.rank x.l≤Num.rank b∧Num.rank b≤Num.rank x.m
 hit:l≠[]→(∃b∈l,Num.M b=x.l)∧(∃b∈l,Num.M b=x.m)
theorem Inv.sum{l:List Nat}{x:Mtr}(h:Inv l x)(hn:l.length<9223372036854775807)(b:Nat):(ad x b).s=if l.length=0 then Num.M b else Num.S x.s b:=by
 have hmx:x.n≠9223372036854775807:=by rw[h.n];omega
 by_cases h0:l.length=0
 ·rw[if_pos h0,ad_one h.ok (by rw[h.n,h0];rfl)]
 ·have hz:x.n≠0:=by rw[h.n];omega
  rw[if_neg h0,ad_more h.ok hmx hz]
  have hs:Num.M x.s=x.s:=by
   rcases h.ok with ⟨h1,_⟩|h1
   ·exact absurd h1 hz
   ·exact h1.2.1
  show Num.S x.s (Num.M b)=Num.S x.s b
  have e:=Num.S_M x.s (Num.M b)
  rw[Num.M_M,Num.S_M] at e
  exact e.symm
/- Two floats in either order. -/
theorem least_comm{a b:Nat}(ha:a<18446744073709551616)(hb:b<18446744073709551616):least a b=least b a:=by
 unfold least
 rcases Nat.lt_trichotomy (Num.rank a) (Num.rank b) with h|h|h
 ·rw[if_neg (by omega),if_pos h]
 ·rw[if_neg (by omega),if_neg (by omega)];exact Num.rank_inj ha hb h
 ·rw[if_pos h,if_neg (by omega)]
theorem most_comm{a b:Nat}(ha:a<18446744073709551616)(hb:b<18446744073709551616):most a b=most b a:=by
 unfold most
 rcases Nat.lt_trichotomy (Num.rank a) (Num.rank b) with h|h|h
 ·rw[if_pos h,if_neg (by omega)]
 ·rw[if_neg (by omega),if_neg (by omega)];exact Num.rank_inj ha hb h
 ·rw[if_neg (by omega),if_pos h]
theorem ok_one(a:Nat):Ok ⟨1,Num.M a,Num.M a,Num.M a⟩:=.inr ⟨(by decide:(0:Int)<1),Num.M_M a,Num.M_M a,Num.M_M a,Nat.le_refl _⟩
theorem two(a b:Nat):ad (ad zero a) b=⟨2,Num.S (Num.M a) (Num.M b),least (Num.M a) (Num.M b),most (Num.M a) (Num.M b)⟩:=by
 rw[ad_one ok_zero rfl,ad_more (ok_one a) (by show(1:Int)≠_;decide) (by show(1:Int)≠_;decide)]
 rfl
theorem turned{a b:Nat}(ha:a<18446744073709551616)(hb:b<18446744073709551616):ad (ad zero a) b=ad (ad zero b) a:=by
 rw[two,two,Num.S_comm,least_comm (Num.M_lt ha) (Num.M_lt hb),most_comm (Num.M_lt ha) (Num.M_lt hb)]
end Mt
end
section
namespace Dct
theorem pt_right{l:List Pr}(h:Right l)(k:ByteArray)(v:Val.V):Right (ptL l k v):=by
 unfold ptL
 split
 next he=>
  unfold ptE at he
  rw[if_pos h] at he
  split at he
  next hp=>
   split at he
   next hn=>exact ins_right h hp hn
   next=>cases he
  next hp=>exact absurd he hp
 next=>exact h
theorem ct_right{l:List Pr}(h:Right l)(k:ByteArray):Right (ctL l k):=by
 unfold ctL
 split
 ·exact wo_right h k
 ·exact h
theorem sw_right{l:List Pr}(h:Right l)(k:ByteArray)(o v:Val.V):Right (swL l k o v):=by
 unfold swL
 split
 next he=>
  split
  next=>exact wo_right h k
  next hv=>
   unfold swE at he
   rw[if_pos h] at he
   split at he
   next hg=>
    have hp:=pt_right h k v
    unfold ptL at hp
    rwa [if_pos he] at hp
   next=>cases he
 next=>exact h
end Dct
namespace Mt
theorem ad_right{x:Mtr}(h:Ok x)(b:Nat):Ok (ad x b):=by
 by_cases hm:x.n=9223372036854775807
 ·rw[ad_full h hm];exact h
 by_cases h0:x.n=0
 ·rw[ad_one h h0];exact ok_one b
 rw[ad_more h hm h0]
 have hok:0<x.n∧Num.M x.s=x.s∧Num.M x.l=x.l∧Num.M x.m=x.m∧Num.rank x.l≤Num.rank x.m:=by
  rcases h with ⟨h1,_⟩|h1
  ·exact absurd h1 h0
  ·exact h1
 obtain⟨o1,o2,o3,o4,o5⟩:=hok
 have r1:=rank_least x.l (Num.M b)
 have r2:=rank_most x.m (Num.M b)
 rw[Num.rank_M] at r1 r2
 exact .inr ⟨by show 0<x.n+1;omega,S_self _ _,least_self _ _,most_self _ _,by show Num.rank (least x.l (Num.M b))≤Num.rank (most x.m (Num.M b));omega⟩
end Mt
namespace Sto
theorem put_parts{l:List Ob}(h:Up l)(k:ByteArray):(∀x∈l.take (idx l k),Dct.lt x.name k=true)∧(∀x∈l.drop (fin l k),Dct.lt k x.name=true):=by
 induction l with
 | nil=>exact⟨fun x hx=>by simp at hx,fun x hx=>by simp at hx⟩
 | cons x r ih=>
  obtain⟨i1,i2⟩:=ih (List.pairwise_cons.1 h).2
  rcases Dct.lt_tri x.name k with hk|hk|hk
  ·obtain⟨e1,e2⟩:=fin_cons_lt (r:=r) hk
   rw[e1,e2]
   refine⟨fun y hy=>?_,i2⟩
   rw[List.take_succ_cons] at hy
   rcases List.mem_cons.1 hy with rfl|hy
   ·exact hk
   ·exact i1 y hy
  ·subst hk
   obtain⟨e1,e2⟩:=fin_cons_eq (x:=x) (r:=r)
   rw[e1,e2]
   exact⟨fun y hy=>by simp at hy,above h (.inl rfl)⟩
  ·obtain⟨e1,e2⟩:=fin_cons_gt (r:=r) hk
   rw[e1,e2]
   refine⟨fun y hy=>by simp at hy,fun y hy=>?_⟩
   rcases List.mem_cons.1 hy with rfl|hy
   ·exact hk
   ·exact above h (.inr hk) y hy
theorem put_right{l:List Ob}(h:Right l){k:ByteArray}{o:Ob}(hn:o.name=k)(ho:One o=true)(hl:(fnd l k).isSome=true∨¬l.length=8):Right (put l k o):=by
 obtain⟨p1,p2⟩:=put_parts h.up k
 obtain⟨_,_,h3,h4⟩:=wo_parts h.up k
 obtain⟨h5,h6⟩:=fin_le l k
 have h8:=h.len
 subst hn
 refine⟨?_,fun x hx=>?_,?_⟩
 ·unfold put
  rw[List.length_append,List.length_append,List.length_take,List.length_drop,List.length_singleton]
  by_cases hq:fin l o.name=idx l o.name
  ·rw[h3,if_pos hq] at hl
   rcases hl with hl|hl
   ·cases hl
   ·omega
  ·omega
 ·unfold put at hx
  rcases List.mem_append.1 hx with hx|hx
  ·rcases List.mem_append.1 hx with hx|hx
   ·exact h.ok x (List.mem_of_mem_take hx)
   ·rw[List.mem_singleton.1 hx];exact ho
  ·exact h.ok x (List.mem_of_mem_drop hx)
 ·unfold put Up
  rw[List.pairwise_append,List.pairwise_append]
  refine⟨⟨List.Pairwise.sublist (List.take_sublist _ _) h.up,List.pairwise_singleton _ _,fun a ha b hb=>?_⟩,List.Pairwise.sublist (List.drop_sublist _ _) h.up,fun a ha b hb=>?_⟩
  ·rw[List.mem_singleton.1 hb]
   exact p1 a ha
  ·rcases List.mem_append.1 ha with ha|ha
   ·exact Dct.lt_trans (p1 a ha) (p2 b hb)
   ·rw[List.mem_singleton.1 ha]
    exact p2 b hb
theorem wo_right{l:List Ob}(h:Right l)(k:ByteArray):Right (wo l k):=
 ⟨Nat.le_trans (List.length_filter_le _ _) h.len,fun x hx=>h.ok x (wo_mem.1 hx).1,wo_up h.up k⟩
section
variable {o:Ob}
theorem clean_of(q1:is o.kind=true)(q2:f0 o=false∨h0 o.kind=true)(q3:f1 o=false∨h1 o.kind=true)(q4:f2 o=false∨h2 o.kind=true)(q5:f3 o=false∨h3 o.kind=true)(q6:f4 o=false∨h4 o.kind=true)(q7:f5 o=false∨h5 o.kind=true):clean o=true:=by
 unfold clean
 simp only[Bool.and_eq_true,Bool.or_eq_true,Bool.not_eq_true']
 exact⟨q1,⟨⟨⟨⟨⟨q2,q3⟩,q4⟩,q5⟩,q6⟩,q7⟩⟩
theorem clean_to(h:clean o=true):is o.kind=true∧(f0 o=false∨h0 o.kind=true)∧(f1 o=false∨h1 o.kind=true)∧(f2 o=false∨h2 o.kind=true)∧(f3 o=false∨h3 o.kind=true)∧(f4 o=false∨h4 o.kind=true)∧(f5 o=false∨h5 o.kind=true):=by
 unfold clean at h
 simp only[Bool.and_eq_true,Bool.or_eq_true,Bool.not_eq_true'] at h
 obtain⟨a,⟨⟨⟨⟨⟨b,c⟩,d⟩,e⟩,f⟩,g⟩⟩:=h
 exact⟨a,b,c,d,e,f,g⟩
theorem sound_1(h:o.kind=1):sound o=decide (Dct.Right o.prs):=by unfold sound;rw[if_pos h]
theorem sound_2(h:o.kind=2):sound o=decide (Que.Right o.cap o.vals):=by unfold sound;rw[if_neg (by omega),if_pos h]
theorem sound_3(h:o.kind=3):sound o=decide (Lck.Right o.refs):=by unfold sound;rw[if_neg (by omega),if_neg (by omega),if_pos h]
theorem sound_4(h:o.kind=4):sound o=(decide (Gt.Right o.cap o.refs)&&decide (0≤o.round)):=by unfold sound;rw[if_neg (by omega),if_neg (by omega),if_neg (by omega),if_pos h]
theorem sound_5(h:o.kind=5):sound o=decide (Mt.Ok o.mt):=by unfold sound;rw[if_neg (by omega),if_neg (by omega),if_neg (by omega),if_neg (by omega),if_pos h]
theorem one_prs(h:One o=true)(hk:o.kind=1){m:List Dct.Pr}(hm:Dct.Right o.prs→Dct.Right m):One { o with prs:=m } = true:=by
 obtain⟨a,b,c⟩:=one_parts h
 obtain⟨b0,b1,b2,b3,b4,b5,b6⟩:=clean_to b
 rw[sound_1 hk] at c
 refine name_one a (clean_of b0 b1 (.inr (by show h1 o.kind=true;rw[hk];rfl)) b3 b4 b5 b6) ?_
 rw[sound_1 (o:={ o with prs:=m }) hk]
 exact decide_eq_true (hm (of_decide_eq_true c))
theorem one_vals(h:One o=true)(hk:o.kind=2){m:List Val.V}(hm:Que.Right o.cap o.vals→Que.Right o.cap m):One { o with vals:=m } = true:=by
 obtain⟨a,b,c⟩:=one_parts h
 obtain⟨b0,b1,b2,b3,b4,b5,b6⟩:=clean_to b
 rw[sound_2 hk] at c
 refine name_one a (clean_of b0 b1 b2 (.inr (by show h2 o.kind=true;rw[hk];rfl)) b4 b5 b6) ?_
 rw[sound_2 (o:={ o with vals:=m }) hk]
 exact decide_eq_true (hm (of_decide_eq_true c))
theorem one_refs(h:One o=true)(hk:o.kind=3){m:List Rf}(hm:Lck.Right o.refs→Lck.Right m):One { o with refs:=m } = true:=by
 obtain⟨a,b,c⟩:=one_parts h
 obtain⟨b0,b1,b2,b3,b4,b5,b6⟩:=clean_to b
 rw[sound_3 hk] at c
 refine name_one a (clean_of b0 b1 b2 b3 (.inr (by show h3 o.kind=true;rw[hk];rfl)) b5 b6) ?_
 rw[sound_3 (o:={ o with refs:=m }) hk]
 exact decide_eq_true (hm (of_decide_eq_true c))
theorem one_gate(h:One o=true)(hk:o.kind=4){m:List Rf}{d:Int}(hm:Gt.Right o.cap o.refs→Gt.Right o.cap m)(hd:0≤o.round→0≤d):One { o with refs:=m,round:=d } = true:=by
 obtain⟨a,b,c⟩:=one_parts h
 obtain⟨b0,b1,b2,b3,b4,b5,b6⟩:=clean_to b
 rw[sound_4 hk,Bool.and_eq_true] at c
 refine name_one a (clean_of b0 b1 b2 b3 (.inr (by show h3 o.kind=true;rw[hk];rfl)) (.inr (by show h4 o.kind=true;rw[hk];rfl)) b6) ?_
 rw[sound_4 (o:={ o with refs:=m,round:=d }) hk,Bool.and_eq_true]
 exact⟨decide_eq_true (hm (of_decide_eq_true c.1)),decide_eq_true (hd (of_decide_eq_true c.2))⟩
theorem one_mt(h:One o=true)(hk:o.kind=5){m:Mtr}(hm:Mt.Ok o.mt→Mt.Ok m):One { o with mt:=m } = true:=by
 obtain⟨a,b,c⟩:=one_parts h
 obtain⟨b0,b1,b2,b3,b4,b5,b6⟩:=clean_to b
 rw[sound_5 hk] at c
 refine name_one a (clean_of b0 b1 b2 b3 b4 b5 (.inr (by show h5 o.kind=true;rw[hk];rfl))) ?_
 rw[sound_5 (o:={ o with mt:=m }) hk]
 exact decide_eq_true (hm (of_decide_eq_true c))
theorem wait_one(h:One o=true)(hk:o.kind=4)(r:Rf):One (wait o r).o=true:=by
 unfold wait
 split
 next h0=>
  refine one_gate (d:=o.round) h hk (fun hr=>?_) id
  by_cases he:Gt.wtE o.cap o.refs r=0
  ·obtain⟨g1,g2,g3⟩:=Gt.wt_is he
   by_cases hf:(o.refs.length:Int)+1=o.cap
   ·rw[(Gt.wt_full g1 g2 g3 hf).2.2,List.length_append] at h0
    simp at h0
   ·rw[(Gt.wt_more g1 g2 g3 hf).2.1]
    exact Gt.right_ap g1 g2 g3 hf
  ·rw[(Gt.wt_no (z:=Gt.wtE o.cap o.refs r) rfl he).2.1]
   exact hr
 next h0=>
  split
  next=>exact h
  next=>
   refine one_gate h hk (fun hr=>?_) (fun hd=>by omega)
   by_cases he:Gt.wtE o.cap o.refs r=0
   ·obtain⟨g1,g2,g3⟩:=Gt.wt_is he
    by_cases hf:(o.refs.length:Int)+1=o.cap
    ·rw[(Gt.wt_full g1 g2 g3 hf).2.1]
     exact Gt.right_of hr.1 hr.2.1
    ·rw[(Gt.wt_more g1 g2 g3 hf).2.1]
     exact Gt.right_ap g1 g2 g3 hf
   ·rw[(Gt.wt_no (z:=Gt.wtE o.cap o.refs r) rfl he).2.1]
    exact hr
theorem act_one(h:One o=true)(r:Rf){c:Cmd.C}(hk:4≤c.k∧c.k≤17)(h4:¬c.k=4)(h5:¬c.k=5)(hf:fits c.k o.kind=true):One (act o r c).o=true:=by
 unfold act
 rcases act_kinds hk h4 h5 with k|k|k|k|k|k|k|k|k|k|k|k<;>rw[k] at hf<;>simp only[k]<;>unfold fits at hf<;>simp at hf ⊢
 ·exact h
 ·exact one_prs h hf (fun g=>Dct.pt_right g _ _)
 ·exact one_prs h hf (fun g=>Dct.ct_right g _)
 ·exact one_prs h hf (fun g=>Dct.sw_right g _ _ _)
 ·exact one_vals h hf (fun g=>Que.ps_right g _)
 ·exact one_vals h hf (fun g=>Que.pp_right g)
 ·exact one_refs h hf (fun g=>Lck.tk_right g r)
 ·exact one_refs h hf (fun g=>Lck.fr_right g r)
 ·exact wait_one h hf r
 ·exact one_mt h hf (fun g=>Mt.ad_right g _)
 ·exact h
 ·exact h
theorem dr_one(h:One o=true)(r:Rf):One (dr o r)=true:=by
 unfold dr
 split
 next hk=>exact one_refs h hk (fun g=>Lck.dr_right g r)
 next=>
  split
  next hk=>
   refine one_gate (d:=o.round) h hk (fun g=>?_) id
   rw[Gt.dr_yes g]
   exact Gt.right_wo g r
  next=>exact h
theorem dr_name(o:Ob)(r:Rf):(dr o r).name=o.name:=by
 unfold dr
 split
 ·rfl
 ·split<;>rfl
end
theorem fresh_one{c:Cmd.C}(he:Cmd.chk c=0)(h4:c.k=4):One (fresh c)=true:=by
 have hn:named c.name∧Cmd.nums c:=by
  unfold Cmd.chk at he
  split at he
  ·cases he
  next g=>
   split at he
   ·cases he
   next g2=>
    split at he
    next g3=>exact absurd he g3
    next=>
     split at he
     next g3=>exact absurd he g3
     next=>
      split at he
      ·cases he
      next=>
       split at he
       ·cases he
       next=>
        split at he
        ·cases he
        next g4=>
         refine⟨⟨fun hs=>g (.inr (.inr (.inr ⟨by rw[h4];rfl,hs⟩))),by omega⟩,Decidable.byContradiction g4⟩
 obtain⟨h1,h2⟩:=hn
 unfold Cmd.nums at h2
 rw[if_neg (by omega),if_neg (by omega)] at h2
 have hz:f5 (fresh c)=false:=by unfold f5 fresh;simp
 by_cases n2:c.n=2
 ·rw[if_pos n2] at h2
  refine name_one h1 (clean_of (by show is c.n=true;rw[n2];rfl) (.inr (by show h0 c.n=true;rw[n2];rfl)) (.inl rfl) (.inl rfl) (.inl rfl) (.inl rfl) (.inl hz)) ?_
  rw[sound_2 (o:=fresh c) n2]
  exact decide_eq_true (Que.right_nil h2.1 h2.2)
 rw[if_neg n2] at h2
 by_cases n4:c.n=4
 ·rw[if_pos n4] at h2
  refine name_one h1 (clean_of (by show is c.n=true;rw[n4];rfl) (.inr (by show h0 c.n=true;rw[n4];rfl)) (.inl rfl) (.inl rfl) (.inl rfl) (.inl rfl) (.inl hz)) ?_
  rw[sound_4 (o:=fresh c) n4,Bool.and_eq_true]
  exact⟨decide_eq_true (Gt.right_of h2.1 h2.2),rfl⟩
 rw[if_neg n4] at h2
 have hcap:f0 (fresh c)=false:=by show(!decide (c.m=0))=false;rw[h2.2.2];rfl
 have hk:c.n=1∨c.n=3∨c.n=5:=by omega
 refine name_one h1 (clean_of (by show decide (1≤c.n∧c.n≤5)=true;exact decide_eq_true (by omega)) (.inl hcap) (.inl rfl) (.inl rfl) (.inl rfl) (.inl rfl) (.inl hz)) ?_
 rcases hk with hk|hk|hk
 ·rw[sound_1 (o:=fresh c) hk];exact decide_eq_true Dct.right_nil
 ·rw[sound_3 (o:=fresh c) hk];exact decide_eq_true Lck.right_nil
 ·rw[sound_5 (o:=fresh c) hk];exact decide_eq_true Mt.ok_zero
theorem doo_right{l:List Ob}(h:Right l)(r:Rf)(c:Cmd.C):Right (doo l r c).l:=by
 by_cases hc:chk l r c=0
 case neg=>rw[doo_err hc];exact h
 obtain⟨⟨_,_,hk⟩,he,hnew,hown⟩:=chk_ok hc
 by_cases h4:c.k=4
 ·rw[doo_new hc h4]
  exact put_right h rfl (fresh_one he h4) (.inr (hnew h4).2)
 by_cases h5:c.k=5
 ·rw[doo_cut hc h5]
  exact wo_right h _
 obtain⟨o,ho,hf,_⟩:=hown h4
 rw[doo_act hc h4 h5 ho]
 obtain⟨hm,hn⟩:=fnd_is ho
 exact put_right h ((act_name o r c).trans hn) (act_one (h.ok o hm) r hk h4 h5 hf) (.inl (by rw[ho];rfl))
theorem drop_right{l:List Ob}(h:Right l)(r:Rf):Right (dropL l r):=by
 unfold dropL
 rw[if_pos h]
 refine⟨by rw[List.length_map];exact h.len,fun x hx=>?_,?_⟩
 ·obtain⟨y,hy,rfl⟩:=List.mem_map.1 hx
  exact dr_one (h.ok y hy) r
 ·unfold Up
  rw[List.pairwise_map]
  exact h.up.imp fun {a b} hab=>by rw[dr_name,dr_name];exact hab
end Sto
end
end Go.Proofs.YtddpmlcpfmmbeaaGreat
