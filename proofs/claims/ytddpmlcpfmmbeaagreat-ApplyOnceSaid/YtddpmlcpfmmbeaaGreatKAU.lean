/- What slices.Grow of the nil slice, slices.Concat of requests return. No condition but those named. -/
import Derived.Test.YtddpmlcpfmmbeaaGreatTk
import Derived.Test.YtddpmlcpfmmbeaaGreatKAS
import Derived.Test.YtddpmlcpfmmbeaaGreatKAT
import Derived.Test.YtddpmlcpfmmbeaaGreatKAK
import Derived.Test.YtddpmlcpfmmbeaaGreatKAQ
import Derived.Test.YtddpmlcpfmmbeaaGreatKAF
import Derived.Lib.AppendZeros
set_option linter.unusedSimpArgs false
set_option linter.unusedVariables false
set_option maxRecDepth 100000
set_option maxHeartbeats 25600000
namespace Go.Proofs.YtddpmlcpfmmbeaaGreat
section
open Go.RowKit
section
variable {b0:Nat}{w0 w:World}{L:List (Nat×TypeId×Array Value)}{R:List RowE}{o:Oper}{a:Act}{g:Nat}{c:Cmd.C}
theorem kcm(HK:Hid (Kn b0 w0 w L R))(i:Nat)(p:Operand)(ho:o.op=.load 37 p)(hL:L[i]?=some (g,37,cmA c))(hx:a.eval p=.pointer (some ⟨g,0,none⟩)):
  (execOp a.eval o).run Tryz.prog w=.ok (.value (.agg (cmA c))) w:=kexec_ls HK _ p ho i hL hx (cmA c) (fun j _=>by rw[Nat.zero_add]) Tryz.underlying37 info_cm
theorem kcm_k(HK:Hid (Kn b0 w0 w L R))(i:Nat)(p:Operand)(ho:o.op=.load 3 p)(hL:L[i]?=some (g,37,cmA c))(hx:a.eval p=.pointer (some ⟨g,0,none⟩)):
  (execOp a.eval o).run Tryz.prog w=.ok (.value (.int .i64 c.k)) w:=kexec_lc HK _ p ho i hL hx rfl Tryz.underlying3 rfl
theorem kcm_n(HK:Hid (Kn b0 w0 w L R))(i:Nat)(p:Operand)(ho:o.op=.load 9 p)(hL:L[i]?=some (g,37,cmA c))(hx:a.eval p=.pointer (some ⟨g,1,none⟩)):
  (execOp a.eval o).run Tryz.prog w=.ok (.value (.string c.name)) w:=kexec_lc HK _ p ho i hL hx rfl Tryz.underlying9 rfl
theorem kcm_y(HK:Hid (Kn b0 w0 w L R))(i:Nat)(p:Operand)(ho:o.op=.load 9 p)(hL:L[i]?=some (g,37,cmA c))(hx:a.eval p=.pointer (some ⟨g,2,none⟩)):
  (execOp a.eval o).run Tryz.prog w=.ok (.value (.string c.key)) w:=kexec_lc HK _ p ho i hL hx rfl Tryz.underlying9 rfl
theorem kcm_f(HK:Hid (Kn b0 w0 w L R))(i:Nat)(p:Operand)(ho:o.op=.load 24 p)(hL:L[i]?=some (g,37,cmA c))(hx:a.eval p=.pointer (some ⟨g,5,none⟩)):
  (execOp a.eval o).run Tryz.prog w=.ok (.value (.int .u64 (c.val.f:Int))) w:=kexec_lc HK _ p ho i hL hx rfl Tryz.underlying24 rfl
theorem kcm_N(HK:Hid (Kn b0 w0 w L R))(i:Nat)(p:Operand)(ho:o.op=.load 3 p)(hL:L[i]?=some (g,37,cmA c))(hx:a.eval p=.pointer (some ⟨g,11,none⟩)):
  (execOp a.eval o).run Tryz.prog w=.ok (.value (.int .i64 c.n)) w:=kexec_lc HK _ p ho i hL hx rfl Tryz.underlying3 rfl
theorem kcm_M(HK:Hid (Kn b0 w0 w L R))(i:Nat)(p:Operand)(ho:o.op=.load 3 p)(hL:L[i]?=some (g,37,cmA c))(hx:a.eval p=.pointer (some ⟨g,12,none⟩)):
  (execOp a.eval o).run Tryz.prog w=.ok (.value (.int .i64 c.m)) w:=kexec_lc HK _ p ho i hL hx rfl Tryz.underlying3 rfl
theorem kcm_v(HK:Hid (Kn b0 w0 w L R))(i:Nat)(p:Operand)(ho:o.op=.load 26 p)(hL:L[i]?=some (g,37,cmA c))(hx:a.eval p=.pointer (some ⟨g,3,none⟩)):
  (execOp a.eval o).run Tryz.prog w=.ok (.value (.agg #[.int .i64 c.val.k,.int .i64 c.val.n,.int .u64 (c.val.f:Int),.string c.val.s])) w:=
 kexec_ls HK _ p ho i hL hx #[.int .i64 c.val.k,.int .i64 c.val.n,.int .u64 (c.val.f:Int),.string c.val.s] (fun j hj=>by
  match j,hj with
  | 0,_|1,_|2,_|3,_=>rfl) Tryz.underlying26 info_v4
theorem kcm_o(HK:Hid (Kn b0 w0 w L R))(i:Nat)(p:Operand)(ho:o.op=.load 26 p)(hL:L[i]?=some (g,37,cmA c))(hx:a.eval p=.pointer (some ⟨g,7,none⟩)):
  (execOp a.eval o).run Tryz.prog w=.ok (.value (.agg #[.int .i64 c.old.k,.int .i64 c.old.n,.int .u64 (c.old.f:Int),.string c.old.s])) w:=
 kexec_ls HK _ p ho i hL hx #[.int .i64 c.old.k,.int .i64 c.old.n,.int .u64 (c.old.f:Int),.string c.old.s] (fun j hj=>by
  match j,hj with
  | 0,_|1,_|2,_|3,_=>rfl) Tryz.underlying26 info_v4
end
theorem exec_lti{w:World}{o:Oper}{a:Act}{x k:Int}{b:Bool}(p:Operand)(ho:o.op=.binOp .lss 3 p (.const (.int .i64 k)) 3)(hp:a.eval p=.int .i64 x)(hb:decide (x<k)=b):
  (execOp a.eval o).run Tryz.prog w=.ok (.value (.bool b)) w:=by
 have he:a.eval (.const (.int .i64 k))=.int .i64 k:=rfl
 subst hb
 unfold execOp
 simp only[ho,hp,he]
 go_simp
def IsN1(x:Int)(w:World)(e:Ending)(w':World):Prop:=e=.returned (.int .i64 x)∧Below w.heap.size w w'
theorem checkOwn_any(A:Option Addr)(c n:Nat)(l:List Oh)(k:Int)(w:World)(hs:Obs w A n c l):
  Calls Tryz.prog 158 #[.slice A n c,.int .i64 k] w (IsN1 (Sto.chkO (l[0]?.map (·.v)) k) w):=by
 unfold IsN1
 have HK:=zH (Kn.start w)
 have HF:=zH sfits_any
 unfold IsB at HF
 rcases Nat.eq_zero_or_pos n with h0|hpos
 ·subst h0
  obtain rfl:l=[]:=List.length_eq_zero_iff.1 hs.len
  show Calls _ _ _ _ fun e w'=>e=.returned (.int .i64 5)∧Below w.heap.size w w'
  clear hs
  go_enter Tryz.func158,Tryz.ntmps158
  go_wp2_with fail
  go_ret
  exact⟨rfl,HK.out.b⟩
 obtain⟨x,hx,hin⟩:=hs.get hpos
 obtain⟨b,o,rfl,hat⟩:=hs.s.at hpos
 have HX:Hid (∀W,Below w.heap.size w W→∀j v,(obL x)[j]?=some v→W.cell? ⟨b,o+j,none⟩=some v):=zH fun W hW j v hv=>by
  have h:=hat W hW 0 x hx j v hv
  rwa [Nat.zero_mul,Nat.add_zero] at h
 have hr:x.v.refs.length=x.rn:=hin.r.len
 rw[hx,Option.map_some]
 unfold Sto.chkO
 simp only
 rw[hr]
 have h1:((n:Int)==0)=false:=by simpa using (by omega:¬(n:Int)=0)
 have h2:(0:Int)<(n:Int):=by omega
 clear hs hx hin hat hr
 generalize hq:Sto.fits k x.v.kind=q
 have HQ:=zH hq
 clear hq
 cases q
 ·rw[if_pos rfl]
  go_enter Tryz.func158,Tryz.ntmps158
  go_wp2_with (first|refine wpList_exe (exec_obk (x:=x) (off:=o) _ (by rfl) (by rfl) (HX.out _ HK.out.b)) (by rfl) ?_)
  refine(HF.out _ _ _).mono ?_;rintro e w1 ⟨rfl,b1⟩
  rw[HQ.out]
  replace HK:=hkC HK b1;clear b1
  go_wp2_with fail
  go_ret
  exact⟨rfl,HK.out.b⟩
 rw[if_neg (by simp)]
 by_cases h5:k=5
 ·subst h5
  by_cases h6:0<x.rn
  ·rw[if_pos ⟨rfl,h6⟩]
   go_enter Tryz.func158,Tryz.ntmps158
   go_wp2_with (first|refine wpList_exe (exec_obk (x:=x) (off:=o) _ (by rfl) (by rfl) (HX.out _ HK.out.b)) (by rfl) ?_)
   refine(HF.out _ _ _).mono ?_;rintro e w1 ⟨rfl,b1⟩
   rw[HQ.out]
   replace HK:=hkC HK b1;clear b1
   go_wp2_with (first|refine wpList_exe (exec_obr (x:=x) (off:=o) _ (by rfl) (by rfl) (HX.out _ HK.out.b)) (by rfl) ?_)
   go_ret
   exact⟨rfl,HK.out.b⟩
  ·rw[if_neg (fun g=>h6 g.2)]
   go_enter Tryz.func158,Tryz.ntmps158
   go_wp2_with (first|refine wpList_exe (exec_obk (x:=x) (off:=o) _ (by rfl) (by rfl) (HX.out _ HK.out.b)) (by rfl) ?_)
   refine(HF.out _ _ _).mono ?_;rintro e w1 ⟨rfl,b1⟩
   rw[HQ.out]
   replace HK:=hkC HK b1;clear b1
   go_wp2_with (first|refine wpList_exe (exec_obr (x:=x) (off:=o) _ (by rfl) (by rfl) (HX.out _ HK.out.b)) (by rfl) ?_)
   go_ret
   exact⟨rfl,HK.out.b⟩
 ·rw[if_neg (fun g=>h5 g.1)]
  go_enter Tryz.func158,Tryz.ntmps158
  go_wp2_with (first|refine wpList_exe (exec_obk (x:=x) (off:=o) _ (by rfl) (by rfl) (HX.out _ HK.out.b)) (by rfl) ?_)
  refine(HF.out _ _ _).mono ?_;rintro e w1 ⟨rfl,b1⟩
  rw[HQ.out]
  replace HK:=hkC HK b1;clear b1
  go_wp2_with (first|refine wpList_exe (exec_obr (x:=x) (off:=o) _ (by rfl) (by rfl) (HX.out _ HK.out.b)) (by rfl) ?_)
  go_ret
  exact⟨rfl,HK.out.b⟩
theorem vs_sub(l:List Oh)(p q:Nat):(((l.drop p).take q)[0]?).map (·.v)=(((vs l).drop p).take q)[0]?:=by
 unfold vs
 rw[← List.map_drop,← List.map_take,List.getElem?_map]
theorem scheck_any(A:Option Addr)(cp n:Nat)(l:List Oh)(r:Rf)(c:Cmd.C)(w:World)(hs:Obs w A n cp l)(hv:c.val.f<18446744073709551616)(ho:c.old.f<18446744073709551616):
  Calls Tryz.prog 130 #[.slice A n cp,.agg #[.int .i64 r.c,.int .i64 r.e,.int .i64 r.r],.agg (cmA c)] w (IsN1 (Sto.chk (vs l) r c) w):=by
 unfold IsN1
 have HM:=zH (fun W (hW:Below w.heap.size w W)=>oright_any A cp n l W (hs.later hW))
 have HC:=zH (fun W=>cmr_any r W)
 have HE:=zH (fun W=>chk_any c W hv ho)
 have HP:=zH (fun W (hW:Below w.heap.size w W)=>oparts_any A cp n l c.name w W hs hW)
 have HN:=zH checkNew_any
 have HO:=zH checkOwn_any
 have hlen:(vs l).length=n:=by rw[vs_len];exact hs.len
 have HK:=kn2 w 35 #[.int .i64 r.c,.int .i64 r.e,.int .i64 r.r] 37 (cmA c)
 have HSub:=zH (vs_sub l)
 clear hs hv ho
 unfold IsB at HM HC
 unfold IsE at HE
 unfold IsN1 at HO
 unfold IsOParts at HP
 by_cases hr:Sto.Right (vs l)
 case neg=>
  rw[decide_eq_false hr] at HM
  rw[Sto.chk_arg (fun g=>hr g.1)]
  clear hr HC HE HP HN HO HSub
  go_enter Tryz.func130,Tryz.ntmps130
  go_wp2_with fail
  (refine(HM.out _ HK.out.b).mono ?_;rintro e w1 ⟨rfl,b1⟩)
  replace HK:=hkC HK b1;clear b1
  go_wp2_with fail
  go_ret
  exact⟨rfl,HK.out.b⟩
 case pos=>
 rw[decide_eq_true hr] at HM
 by_cases hk:Lck.ok r
 case neg=>
  rw[decide_eq_false hk] at HC
  rw[Sto.chk_arg (fun g=>hk g.2.1)]
  clear hr hk HE HP HN HO HSub
  go_enter Tryz.func130,Tryz.ntmps130
  go_wp2_with fail
  (refine(HM.out _ HK.out.b).mono ?_;rintro e w1 ⟨rfl,b1⟩)
  replace HK:=hkC HK b1;clear b1
  go_wp2_with (first|refine wpList_exe (kexec_lr HK 0 _ (by rfl) (by rfl) (by rfl)) (by rfl) ?_)
  refine(HC.out _).mono ?_;rintro e w1 ⟨rfl,b1⟩
  replace HK:=hkC HK b1;clear b1
  go_wp2_with fail
  go_ret
  exact⟨rfl,HK.out.b⟩
 case pos=>
 rw[decide_eq_true hk] at HC
 by_cases h4:c.k<4
 ·rw[Sto.chk_arg (fun g=>by omega)]
  have D4:=zH (decide_eq_true h4)
  have D17:Hid (decide (17<c.k)=decide (17<c.k)):=zH rfl
  clear hr hk HE HP HN HO HSub h4
  go_enter Tryz.func130,Tryz.ntmps130
  go_wp2_with fail
  (refine(HM.out _ HK.out.b).mono ?_;rintro e w1 ⟨rfl,b1⟩)
  replace HK:=hkC HK b1;clear b1
  go_wp2_with (first|refine wpList_exe (kexec_lr HK 0 _ (by rfl) (by rfl) (by rfl)) (by rfl) ?_)
  refine(HC.out _).mono ?_;rintro e w1 ⟨rfl,b1⟩
  replace HK:=hkC HK b1;clear b1
  go_wp2_with (first|refine wpList_exe (kcm_k HK 1 _ (by rfl) (by rfl) (by rfl)) (by rfl) ?_|refine wpList_exe (exec_lti (x:=c.k) (k:=4) _ (by rfl) (by rfl) D4.out) (by rfl) ?_|refine wpList_exe (exec_gt (x:=c.k) (k:=17) _ (by rfl) (by rfl) D17.out) (by rfl) ?_)
  go_ret
  exact⟨rfl,HK.out.b⟩
 by_cases h17:17<c.k
 ·rw[Sto.chk_arg (fun g=>by omega)]
  have D4:=zH (decide_eq_false h4)
  have D17:=zH (decide_eq_true h17)
  clear hr hk HE HP HN HO HSub h4 h17
  go_enter Tryz.func130,Tryz.ntmps130
  go_wp2_with fail
  (refine(HM.out _ HK.out.b).mono ?_;rintro e w1 ⟨rfl,b1⟩)
  replace HK:=hkC HK b1;clear b1
  go_wp2_with (first|refine wpList_exe (kexec_lr HK 0 _ (by rfl) (by rfl) (by rfl)) (by rfl) ?_)
  refine(HC.out _).mono ?_;rintro e w1 ⟨rfl,b1⟩
  replace HK:=hkC HK b1;clear b1
  go_wp2_with (first|refine wpList_exe (kcm_k HK 1 _ (by rfl) (by rfl) (by rfl)) (by rfl) ?_|refine wpList_exe (exec_lti (x:=c.k) (k:=4) _ (by rfl) (by rfl) D4.out) (by rfl) ?_|refine wpList_exe (exec_gt (x:=c.k) (k:=17) _ (by rfl) (by rfl) D17.out) (by rfl) ?_)
  go_ret
  exact⟨rfl,HK.out.b⟩
 have hall:Sto.Right (vs l)∧Lck.ok r∧4≤c.k∧c.k≤17:=⟨hr,hk,by omega,by omega⟩
 have D4:=zH (decide_eq_false h4)
 have D17:=zH (decide_eq_false h17)
 clear h4 h17
 by_cases he:Cmd.chk c=0
 case neg=>
  rw[Sto.chk_cmd hall he]
  have he2:(Cmd.chk c != 0)=true:=by simpa using he
  clear hr hk hall HP HN HO HSub he
  generalize Cmd.chk c=z at *
  go_enter Tryz.func130,Tryz.ntmps130
  go_wp2_with fail
  (refine(HM.out _ HK.out.b).mono ?_;rintro e w1 ⟨rfl,b1⟩)
  replace HK:=hkC HK b1;clear b1
  go_wp2_with (first|refine wpList_exe (kexec_lr HK 0 _ (by rfl) (by rfl) (by rfl)) (by rfl) ?_)
  refine(HC.out _).mono ?_;rintro e w1 ⟨rfl,b1⟩
  replace HK:=hkC HK b1;clear b1
  go_wp2_with (first|refine wpList_exe (kcm_k HK 1 _ (by rfl) (by rfl) (by rfl)) (by rfl) ?_|refine wpList_exe (exec_lti (x:=c.k) (k:=4) _ (by rfl) (by rfl) D4.out) (by rfl) ?_|refine wpList_exe (exec_gt (x:=c.k) (k:=17) _ (by rfl) (by rfl) D17.out) (by rfl) ?_|refine wpList_exe (kcm HK 1 _ (by rfl) (by rfl) (by rfl)) (by rfl) ?_)
  refine(HE.out _).mono ?_;rintro e w1 ⟨rfl,b1⟩
  replace HK:=hkC HK b1;clear b1
  go_wp2_with fail
  go_ret
  exact⟨rfl,HK.out.b⟩
 case pos=>
 rw[he] at HE
 have hown:=Sto.own_is hr.up c.name
 have hsome:=Sto.own_some hr.up c.name
 by_cases h44:c.k=4
 ·rw[Sto.chk_new hall he h44]
  unfold Sto.chkN
  rw[hsome,hlen]
  have hk4:(c.k==4)=true:=by simpa using h44
  clear hr hk hall HO HSub he hown hsome hlen h44
  have HQn:=zH (Sto.fin_le (vs l) c.name)
  generalize Sto.fin (vs l) c.name=q at *
  generalize Sto.idx (vs l) c.name=p at *
  have HNz:=zH (fun(B:Option Addr) (m d:Nat) (W:World) (h:decide (0<q-p)=decide (0<m))=>checkNew_any A B n cp m d _ W h)
  clear HN
  generalize (if decide (0<q-p)=true then (8:Int) else if n=8 then 6 else 0)=z at *
  go_enter Tryz.func130,Tryz.ntmps130
  go_wp2_with fail
  (refine(HM.out _ HK.out.b).mono ?_;rintro e w1 ⟨rfl,b1⟩)
  replace HK:=hkC HK b1;clear b1
  go_wp2_with (first|refine wpList_exe (kexec_lr HK 0 _ (by rfl) (by rfl) (by rfl)) (by rfl) ?_)
  refine(HC.out _).mono ?_;rintro e w1 ⟨rfl,b1⟩
  replace HK:=hkC HK b1;clear b1
  go_wp2_with (first|refine wpList_exe (kcm_k HK 1 _ (by rfl) (by rfl) (by rfl)) (by rfl) ?_|refine wpList_exe (exec_lti (x:=c.k) (k:=4) _ (by rfl) (by rfl) D4.out) (by rfl) ?_|refine wpList_exe (exec_gt (x:=c.k) (k:=17) _ (by rfl) (by rfl) D17.out) (by rfl) ?_|refine wpList_exe (kcm HK 1 _ (by rfl) (by rfl) (by rfl)) (by rfl) ?_)
  refine(HE.out _).mono ?_;rintro e w1 ⟨rfl,b1⟩
  replace HK:=hkC HK b1;clear b1
  go_wp2_with (first|refine wpList_exe (kcm_n HK 1 _ (by rfl) (by rfl) (by rfl)) (by rfl) ?_)
  refine(HP.out _ HK.out.b).mono ?_;rintro e w1 ⟨A1,n1,c1,A2,n2,c2,A3,n3,c3,rfl,s1,s2,s3,b1⟩
  replace HK:=hkC HK b1;clear b1
  have HN2:Hid (decide (0<q-p)=decide (0<n2)):=zH (by
   have h1:=s2.len
   rw[List.length_take,List.length_drop,← vs_len] at h1
   rw[← h1]
   have:=HQn.out
   congr 1
   rw[eq_iff_iff]
   omega)
  clear s1 s2 s3 HP
  go_wp2_with (first|refine wpList_exe (kcm_k HK 1 _ (by rfl) (by rfl) (by rfl)) (by rfl) ?_)
  refine(HNz.out A2 n2 c2 _ HN2.out).mono ?_;rintro e w1 ⟨rfl,b1⟩
  replace HK:=hkC HK b1;clear b1
  go_wp2_with fail
  go_ret
  exact⟨rfl,HK.out.b⟩
 ·rw[Sto.chk_own hall he h44]
  rw[← hown,← HSub.out]
  have hk4:(c.k==4)=false:=by simpa using h44
  clear hr hk hall HN HSub he hown hsome hlen h44
  generalize Sto.fin (vs l) c.name=q at *
  generalize Sto.idx (vs l) c.name=p at *
  go_enter Tryz.func130,Tryz.ntmps130
  go_wp2_with fail
  (refine(HM.out _ HK.out.b).mono ?_;rintro e w1 ⟨rfl,b1⟩)
  replace HK:=hkC HK b1;clear b1
  go_wp2_with (first|refine wpList_exe (kexec_lr HK 0 _ (by rfl) (by rfl) (by rfl)) (by rfl) ?_)
  refine(HC.out _).mono ?_;rintro e w1 ⟨rfl,b1⟩
  replace HK:=hkC HK b1;clear b1
  go_wp2_with (first|refine wpList_exe (kcm_k HK 1 _ (by rfl) (by rfl) (by rfl)) (by rfl) ?_|refine wpList_exe (exec_lti (x:=c.k) (k:=4) _ (by rfl) (by rfl) D4.out) (by rfl) ?_|refine wpList_exe (exec_gt (x:=c.k) (k:=17) _ (by rfl) (by rfl) D17.out) (by rfl) ?_|refine wpList_exe (kcm HK 1 _ (by rfl) (by rfl) (by rfl)) (by rfl) ?_)
  refine(HE.out _).mono ?_;rintro e w1 ⟨rfl,b1⟩
  replace HK:=hkC HK b1;clear b1
  go_wp2_with (first|refine wpList_exe (kcm_n HK 1 _ (by rfl) (by rfl) (by rfl)) (by rfl) ?_)
  refine(HP.out _ HK.out.b).mono ?_;rintro e w1 ⟨A1,n1,c1,A2,n2,c2,A3,n3,c3,rfl,s1,s2,s3,b1⟩
  replace HK:=hkC HK b1;clear b1
  have HS2:=zH s2
  clear s1 s2 s3 HP
  go_wp2_with (first|refine wpList_exe (kcm_k HK 1 _ (by rfl) (by rfl) (by rfl)) (by rfl) ?_)
  refine(HO.out _ _ _ _ _ _ (HS2.out.later HK.out.b)).mono ?_;rintro e w1 ⟨rfl,b1⟩
  replace HK:=hkC HK b1;clear b1
  go_wp2_with fail
  go_ret
  exact⟨rfl,HK.out.b⟩
end
section
open Go.RowKit
theorem Fit.pt{l:List Dct.Pr}(h:Fit l){k:ByteArray}{v:Val.V}(hv:v.f<18446744073709551616):Fit (Dct.ptL l k v):=by
 unfold Dct.ptL
 split
 next h0=>
  unfold Dct.ptE at h0
  split at h0
  next hr=>
   split at h0
   next hp=>
    split at h0
    next hn=>exact h.ins hr.up k hv hn
    next=>cases h0
   next hp=>exact absurd h0 hp
  next=>cases h0
 next=>exact h
theorem Fit.ct{l:List Dct.Pr}(h:Fit l)(k:ByteArray):Fit (Dct.ctL l k):=by
 unfold Dct.ctL
 split
 ·exact h.wo k
 ·exact h
theorem Fit.sw{l:List Dct.Pr}(h:Fit l){k:ByteArray}{o v:Val.V}(hv:v.f<18446744073709551616):Fit (Dct.swL l k o v):=by
 by_cases hr:Dct.Right l
 ·by_cases ho:Dct.gtV l k=o
  ·by_cases hve:v=Dct.emp
   ·subst hve;rw[(Dct.sw_cut hr ho).2.1];exact h.wo k
   ·rw[(Dct.sw_put hr ho hve).2.1];exact h.pt hv
  ·rw[(Dct.sw_unlike hr v ho).2.1];exact h
 ·rw[(Dct.sw_bad hr k o v).2.1];exact h
theorem fits_tk{l:List Rf}{r:Rf}(h:Fits rfLay rF l):Fits rfLay rF (Lck.tkL l r):=by
 unfold Lck.tkL
 split
 next h0=>
  unfold Lck.tkE at h0
  split at h0
  next hr=>
   have h1:=Lck.right_len hr.1
   refine⟨fun x hx=>trivial,?_⟩
   rw[List.length_append]
   show(l.length+1)*24≤_
   omega
  next=>cases h0
 next=>exact h
theorem fits_fr{l:List Rf}{r:Rf}(h:Fits rfLay rF l):Fits rfLay rF (Lck.frL l r):=by
 unfold Lck.frL
 split
 ·exact h.sub (fun x hx=>List.mem_of_mem_drop hx) (by rw[List.length_drop];omega)
 ·exact h
theorem fits_dr{l:List Rf}{r:Rf}(h:Fits rfLay rF l):Fits rfLay rF (Lck.drL l r):=by
 unfold Lck.drL
 split
 ·exact h.sub (fun x hx=>(List.mem_filter.1 hx).1) (Lck.wo_le l r)
 ·exact h
theorem fits_five{l:List Rf}(h:l.length≤6):Fits rfLay rF l:=⟨fun x hx=>trivial,by show l.length*24≤_;omega⟩
theorem fits_wt{m:Int}{l:List Rf}{r:Rf}(h:Fits rfLay rF l):Fits rfLay rF (Gt.wtL m l r)∧Fits rfLay rF (Gt.wtA m l r):=by
 by_cases he:Gt.wtE m l r=0
 ·obtain⟨h1,h2,h3⟩:=Gt.wt_is he
  have h5:=Lck.right_len h1.2.2.2
  have h6:(l++[r]).length≤6:=by rw[List.length_append];show l.length+1≤6;omega
  by_cases hf:(l.length:Int)+1=m
  ·obtain⟨_,e2,e3⟩:=Gt.wt_full h1 h2 h3 hf
   rw[e2,e3]
   exact⟨fits_five (Nat.zero_le _),fits_five h6⟩
  ·obtain⟨_,e2,e3⟩:=Gt.wt_more h1 h2 h3 hf
   rw[e2,e3]
   exact⟨fits_five h6,fits_five (Nat.zero_le _)⟩
 ·obtain⟨_,e2,e3⟩:=Gt.wt_no (z:=Gt.wtE m l r) rfl he
  rw[e2,e3]
  exact⟨h,fits_five (Nat.zero_le _)⟩
theorem fits_gdr{m:Int}{l:List Rf}{r:Rf}(h:Fits rfLay rF l):Fits rfLay rF (Gt.drL m l r):=by
 unfold Gt.drL
 split
 ·exact h.sub (fun x hx=>(List.mem_filter.1 hx).1) (Lck.wo_le l r)
 ·exact h
theorem fits_ps{N:Int}{l:List Val.V}{v:Val.V}(h:Fits vaLay vF l)(hv:vF v):Fits vaLay vF (Que.psL N l v):=by
 unfold Que.psL
 split
 next h0=>
  unfold Que.psE at h0
  split at h0
  next hr=>
   have h1:=hr.len
   have h2:=hr.hi
   refine⟨fun x hx=>?_,?_⟩
   ·rcases List.mem_append.1 hx with hx|hx
    ·exact h.fs x hx
    ·rw[List.mem_singleton] at hx;subst hx;exact hv
   ·rw[List.length_append]
    show(l.length+1)*40≤_
    omega
  next=>cases h0
 next=>exact h
theorem fits_pp{N:Int}{l:List Val.V}(h:Fits vaLay vF l):Fits vaLay vF (Que.ppL N l):=by
 unfold Que.ppL
 split
 ·exact h.sub (fun x hx=>List.mem_of_mem_drop hx) (by rw[List.length_drop];omega)
 ·exact h
end
section
open Go.RowKit
theorem info_rfs:(Tryz.prog.info? 56).map (fun i=>(i.zero,i.size))=some (some (Value.slice none 0 0),1):=by kernel_rfl
def rfNest:Nest rfLay where
 tt:=111
 und:=Tryz.underlying111
 info:=info_rfs
end
section
open Go.RowKit
theorem session_any(x:Rf)(w:World):Calls Tryz.prog 180 #[.agg #[.int .i64 x.c,.int .i64 x.e,.int .i64 x.r]] w (fun e w'=>e=.returned (.agg #[.int .i64 x.c,.int .i64 x.e,.int .i64 0])∧Below w.heap.size w w'):=by
 have HK:=zH (kn1 w 35 #[.int .i64 x.c,.int .i64 x.e,.int .i64 x.r]).out
 go_enter Tryz.func180,Tryz.ntmps180
 go_wp2_with (first|(refine wpList_akr HK rfl rfl ?_;intro _ g1 HK';simp only[lcA,lnA] at HK';replace HK:=HK';clear HK')|refine wpList_exe (kexec_lc0 HK 0 _ (by rfl) (by rfl) (by rfl)) (by rfl) ?_|refine wpList_exe (kexec_lc1 HK 0 _ (by rfl) (by rfl) (by rfl)) (by rfl) ?_|(refine wpList_sr HK 1 rfl _ _ rfl rfl rfl rfl ?_;intro _ HK';simp only[List.set] at HK';replace HK:=HK';clear HK'))
 exact ret_r Tryz.results180 rfl rfl (HK.out.blk 1 rfl) ⟨rfl,HK.out.b⟩
theorem holder_any(A:Option Addr)(c n:Nat)(l:List Rf)(w:World)(hs:Sls rfLay rF w A n c l):
  Calls Tryz.prog 155 #[.slice A n c] w (fun e w'=>e=.returned (.tuple #[.agg #[.int .i64 (l.headD Lck.zero).c,.int .i64 (l.headD Lck.zero).e,.int .i64 (l.headD Lck.zero).r],.bool (decide (0<n))])∧Below w.heap.size w w'):=by
 have HK:=zH (Kn.start w)
 by_cases h0:n=0
 ·subst h0
  obtain rfl:=List.length_eq_zero_iff.1 hs.len
  clear hs
  go_enter Tryz.func155,Tryz.ntmps155
  go_wp2_with (first|(refine wpList_akr HK rfl rfl ?_;intro _ g1 HK';simp only[lcA,lnA] at HK';replace HK:=HK';clear HK')|(refine wpList_sr HK 0 rfl _ _ rfl rfl rfl rfl ?_;intro _ HK';simp only[List.set] at HK';replace HK:=HK';clear HK'))
  exact ret_rb Tryz.results155 rfl rfl rfl (HK.out.blk 0 rfl) ⟨rfl,HK.out.b⟩
 ·have hpos:0<n:=by omega
  obtain⟨x,hx,_⟩:=hs.get hpos
  obtain⟨b,o,rfl,hat⟩:=hs.at hpos
  have HX:=zH (fun W hW=>hat W hW 0 x hx)
  rw[Lck.head_of hx,decide_eq_true hpos]
  have hz:((n:Int)==0)=false:=by simp;omega
  have hn1:(0:Int)<(n:Int):=by omega
  clear hs hat hx h0 hpos
  go_enter Tryz.func155,Tryz.ntmps155
  go_wp2_with (first|(refine wpList_akr HK rfl rfl ?_;intro _ g1 HK';simp only[lcA,lnA] at HK';replace HK:=HK';clear HK')|refine wpList_exe (exec_lr (x:=x) (off:=o+0*3) _ (by rfl) (by rfl) (HX.out _ HK.out.b)) (by rfl) ?_|(refine wpList_sr HK 0 rfl _ _ rfl rfl rfl rfl ?_;intro _ HK';simp only[List.set] at HK';replace HK:=HK';clear HK'))
  exact ret_rb Tryz.results155 rfl rfl rfl (HK.out.blk 0 rfl) ⟨rfl,HK.out.b⟩
end
section
open Go.RowKit
theorem rgrow_any(n:Nat)(w:World)(h24:n*24≤140737488355328):Calls Tryz.prog 76 #[.slice none 0 0,.int .i64 n] w fun e w'=>∃A c,e=.returned (.slice A 0 c)∧rfLay.Own w.heap.size w' (.slice A 0 c) []∧Below w.heap.size w w':=by
 by_cases h0:n=0
 ·subst h0
  have HK:=zH (Kn.start w)
  clear h24
  go_enter Tryz.func76,Tryz.ntmps76
  go_wp2_with fail
  go_ret
  exact⟨_,_,rfl,Lay.Own.none _ _,HK.out.b⟩
 obtain⟨i0,hi,hz0,hz1,hz2⟩:=info_parts rfLay.info
 have hc1:=grownCap_ge w n 0 35
 have hr:=Lib.run_append_nil_zeros (P:=Tryz.prog) w 56 3 56 35 i0 rfLay.z .i64 .i64 rfLay.und Tryz.underlying3 hi hz0 n (by omega) (by rw[hz1];decide) (by omega) (by rw[hz2];show n*24≤_;omega)
 have HR:=zH hr
 have hc2:=grownCap_le_maxLen w n 0 35 (by unfold maxLen;omega)
 generalize grownCap w n 0 35=G at *
 have HO:Hid (rfLay.Own w.heap.size (w.drew.alloc (.cells (Builtin.zeroCells rfLay.z.cells n++Builtin.zeroCells rfLay.z.cells (G-n)) 35)) (.slice (some ⟨w.heap.size,0,none⟩) 0 G) []):=by
  have:=World.ownsRow_made (base:=w.heap.size) (e:=35) (size:=3) w.drew (Builtin.zeroCells rfLay.z.cells n++Builtin.zeroCells rfLay.z.cells (G-n)) G (Nat.le_refl _) hc2 (by
   rw[Array.size_append,size_zeroCells,size_zeroCells]
   have:rfLay.z.cells.size=3:=rfl
   rw[this];omega)
  exact zH this
 have HB:Hid (Below w.heap.size w (w.drew.alloc (.cells (Builtin.zeroCells rfLay.z.cells n++Builtin.zeroCells rfLay.z.cells (G-n)) 35))):=zH ((Below.refl _ w).drew.alloc (Nat.le_refl _) _)
 generalize w.drew.alloc (.cells (Builtin.zeroCells rfLay.z.cells n++Builtin.zeroCells rfLay.z.cells (G-n)) 35)=wz at *
 clear hr hi hz0 hz1 hz2 hc1 hc2
 have h1:¬((n:Int)<0):=by omega
 have h2:(0:Int)<(n:Int):=by omega
 have h3:wrap64 (n:Int)=(n:Int):=by unfold wrap64;omega
 go_enter Tryz.func76,Tryz.ntmps76
 go_wp2_with (first|(at_builtin;refine Lib.wpList_append_run _ rfl _ _ _ _ rfl _ _ rfl rfl _ _ HR.out ?_))
 go_ret
 exact⟨_,_,rfl,HO.out,HB.out⟩
theorem rconcat_any:Joins Tryz.prog 46 rfLay rF:=by
 intro g m ps w hm hb hg hc hs ht
 replace ht:(catP ps).length*24≤140737488355328:=ht
 have HGo:Hid (∀k,k<m→∃p,ps[k]?=some p∧Sls rfLay rF w p.A p.n p.c p.l∧∀W,Below w.heap.size w W→W.cell? ⟨g,k,none⟩=some (.slice p.A p.n p.c)):=zH fun k hk=>by
  obtain⟨p,hp⟩:=Lay.get_of (l:=ps) (k:=k) (by rw[hm];exact hk)
  exact⟨p,hp,hs p (List.mem_of_getElem? hp),fun W hW=>(hW.cell (p:=⟨g,k,none⟩) hg).trans (hc k p hp)⟩
 have HLen:Hid (∀k,(catP (ps.take k)).length*24≤140737488355328):=zH fun k=>Nat.le_trans (Nat.mul_le_mul_right _ (catP_le ps k)) ht
 have HTake:Hid (ps.take m=ps):=zH (by rw[← hm];exact List.take_length)
 have HG:=zH (fun W=>rgrow_any (catP ps).length W ht)
 clear hc hs ht hm hg
 go_enter Tryz.func46,Tryz.ntmps46
 go_wp2_with fail
 go_loopw [3,11] (fun vs vi wr=>∃k:Nat,k≤m∧vs=.int .i64 ((catP (ps.take k)).length:Nat)∧vi=.int .i64 k∧w=wr) (fun _ vi _=>m-(intOf vi).toNat)
 case atStart=>exact⟨0,Nat.zero_le _,rfl,rfl,rfl⟩
 case round=>
  obtain⟨k,hk,rfl,rfl,rfl⟩:=hrel
  by_cases hlt:k<m
  ·obtain⟨p,hp,hsl,hcl⟩:=HGo.out k hlt
   have hcell:=hcl _ (Below.refl _ _)
   have ht:=HLen.out (k+1)
   have he:=catP_more hp
   have hpn:=hsl.len
   rw[he,List.length_append] at ht
   have HE:Hid ((catP (ps.take (k+1))).length=(catP (ps.take k)).length+p.n):=zH (by rw[he,List.length_append,hpn])
   rw[hpn] at ht
   clear he hp hsl hcl hpn
   obtain⟨A,n,c,l⟩:=p
   simp only at hcell ht HE
   generalize (catP (ps.take k)).length=q at *
   have h1:wrap64 ((q:Int)+(n:Int))=((q+n:Nat):Int):=by unfold wrap64;omega
   have h2:¬(((q+n:Nat):Int)<0):=by omega
   have h3:¬((q:Int)+(n:Int)<0):=by omega
   go_wp2_with fail
   exact⟨⟨k+1,by omega,by rw[HE.out];go_num,by go_num,by simp⟩,by simp[intOf];omega⟩
  ·obtain rfl:k=m:=by omega
   rw[HTake.out]
   go_wp2_with fail
   refine(HG.out _).mono ?_;rintro e w1 ⟨A0,c0,rfl,o1,b1⟩
   have HK:=zH ((Kn.start _).called b1 o1)
   simp only[lnA] at HK
   clear b1 o1
   go_wp2_with fail
   go_loopw [6,27] (fun vs vi wr=>∃(q:Nat) (A:Option Addr) (c N:Nat),q≤k∧Hid ((catP (ps.take q)).length=N)∧vs=.slice A N c∧vi=.int .i64 q∧Hid (Kn w.heap.size w wr [] [row rfLay (.slice A N c) (catP (ps.take q))])) (fun _ vi _=>k-(intOf vi).toNat)
   case atStart=>exact⟨0,A0,c0,0,Nat.zero_le _,zH rfl,rfl,rfl,HK⟩
   case round=>
    clear HK
    obtain⟨q,A,c,N,hq,hN,rfl,rfl,HK⟩:=hrel
    by_cases hlt:q<k
    ·obtain⟨p,hp,hsl,hcl⟩:=HGo.out q hlt
     have hcell:=hcl _ HK.out.b
     have HR:=zH (let h:=hsl.later HK.out.b;And.intro h.rd h.nl)
     have hlen:=HLen.out (q+1)
     have he:=catP_more hp
     rw[he,List.length_append,hN.out] at hlen
     have HE:=zH he
     have HPl:Hid (p.n=p.l.length):=zH hsl.len.symm
     have HL:Hid ((catP (ps.take q)).length+p.l.length≤9223372036854775807∧((catP (ps.take q)).length+p.l.length)*rfLay.bytes≤211106232532992):=zH ⟨by rw[hN.out];omega,by show _*24≤_;rw[hN.out];omega⟩
     have HN2:Hid ((catP (ps.take q)++p.l).length=N+p.l.length):=zH (by rw[List.length_append,hN.out])
     clear he hp hlen hsl hcl
     obtain⟨Ap,np,cp,lp⟩:=p
     simp only at hcell HR HPl HL HN2 HE
     go_wp2_with (first|(at_builtin;refine wpList_kmore HK rfLay 0 rfl _ _ rfl rfl rfl lp rfl HPl.out HR HL (N:=N+lp.length) HN2 ?_;intro A4 c4 _ HK';simp only[List.set] at HK';replace HK:=HK';clear HK'))
     refine⟨⟨q+1,A4,c4,N+lp.length,by omega,zH (by rw[HE.out,HN2.out]),rfl,by go_num,?_⟩,by simp[intOf];omega⟩
     rw[HE.out]
     exact HK
    ·obtain rfl:q=k:=by omega
     rw[HTake.out] at HK hN
     obtain rfl:=hN.out
     go_wp2_with fail
     go_ret
     exact⟨A,_,c,rfl,HK.out.own 0 rfl,HK.out.b⟩
end
end Go.Proofs.YtddpmlcpfmmbeaaGreat
