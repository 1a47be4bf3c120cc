/- What checkPair and cmp.Or of two errors return. No condition but those named. -/
import Derived.Test.YtddpmlcpfmmbeaaGreatTk
import Derived.Test.YtddpmlcpfmmbeaaGreatKAK
import Derived.Test.YtddpmlcpfmmbeaaGreatKAN
import Derived.Test.YtddpmlcpfmmbeaaGreatKAD
import Derived.Test.YtddpmlcpfmmbeaaGreatKAI
import Derived.Deep.CutBlock
import Derived.Deep.DeepCutAuto
set_option linter.unusedSimpArgs false
set_option linter.unusedVariables false
set_option maxRecDepth 100000
set_option maxHeartbeats 25600000
namespace Go.Proofs.YtddpmlcpfmmbeaaGreat
section
open Go.RowKit
theorem snamed_any(s:ByteArray)(w:World):Calls Tryz.prog 65 #[.string s] w (IsB (decide (Sto.named s)) w):=by
 unfold IsB
 by_cases h:s.size=0
 ·have h1:s.toList=[]:=emp_l.1 h
  have hd:decide (Sto.named s)=false:=decide_eq_false fun g=>g.1 h
  rw[hd]
  clear hd h
  go_enter Tryz.func65,Tryz.ntmps65
  go_wp2_with fail
  go_ret
  exact⟨rfl,Below.refl _ _⟩
 ·have h1:¬s.toList=[]:=fun g=>h (emp_l.2 g)
  by_cases h2:s.size≤16
  ·have hd:decide (Sto.named s)=true:=decide_eq_true ⟨h,h2⟩
   rw[hd]
   clear hd
   go_enter Tryz.func65,Tryz.ntmps65
   go_wp2_with fail
   go_ret
   exact⟨by simp[h1];omega,Below.refl _ _⟩
  ·have hd:decide (Sto.named s)=false:=decide_eq_false fun g=>h2 g.2
   rw[hd]
   clear hd
   go_enter Tryz.func65,Tryz.ntmps65
   go_wp2_with fail
   go_ret
   exact⟨by simp[h1];omega,Below.refl _ _⟩
theorem fits_none{k z:Int}(h:¬(5≤k∧k≤17)):Sto.fits k z=false:=by
 unfold Sto.fits
 rw[if_neg (by omega),if_neg (by omega),if_neg (by omega),if_neg (by omega),if_neg (by omega),if_neg (by omega)]
theorem sfits_any(k z:Int)(w:World):Calls Tryz.prog 181 #[.int .i64 k,.int .i64 z] w (IsB (Sto.fits k z) w):=by
 unfold IsB
 have hk:k=5∨k=17∨k=6∨k=7∨k=8∨k=9∨k=10∨k=11∨k=12∨k=13∨k=14∨k=15∨k=16∨¬(5≤k∧k≤17):=by omega
 rcases hk with rfl|rfl|rfl|rfl|rfl|rfl|rfl|rfl|rfl|rfl|rfl|rfl|rfl|h
 case inr.inr.inr.inr.inr.inr.inr.inr.inr.inr.inr.inr.inr=>
  rw[fits_none h]
  have n5:¬k=5:=by omega
  have n6:¬k=6:=by omega
  have n7:¬k=7:=by omega
  have n8:¬k=8:=by omega
  have n9:¬k=9:=by omega
  have n10:¬k=10:=by omega
  have n11:¬k=11:=by omega
  have n12:¬k=12:=by omega
  have n13:¬k=13:=by omega
  have n14:¬k=14:=by omega
  have n15:¬k=15:=by omega
  have n16:¬k=16:=by omega
  have n17:¬k=17:=by omega
  clear h
  go_enter Tryz.func181,Tryz.ntmps181
  go_wp2_with fail
  go_ret
  exact⟨rfl,Below.refl _ _⟩
 all_goals
  unfold Sto.fits
  simp only[reduceCtorEq,Int.reduceEq,or_true,true_or,or_false,false_or,if_true,if_false]
  go_enter Tryz.func181,Tryz.ntmps181
  go_wp2_with fail
  go_ret
  exact⟨rfl,Below.refl _ _⟩
theorem snumber_any(n:Int)(w:World):Calls Tryz.prog 170 #[.int .i64 n] w (fun e w'=>e=.returned (.agg #[.int .i64 1,.int .i64 n,.int .u64 ((0:Nat):Int),.string ⟨#[]⟩])∧Below w.heap.size w w'):=by
 have HK:=kn1 w 26 (vC 0 0 0 ⟨#[]⟩)
 go_enter Tryz.func170,Tryz.ntmps170
 go_wp2_with (first|(refine wpList_sv (f2:=0) HK 0 rfl _ _ rfl rfl rfl rfl ?_;intro _ HK';simp only[List.set] at HK';replace HK:=HK';clear HK'))
 exact ret_v Tryz.results170 rfl rfl (HK.out.blk 0 rfl) ⟨rfl,HK.out.b⟩
def IsOt(l:List Sto.Ot)(w:World)(e:Ending)(w':World):Prop:=∃A n c,e=.returned (.slice A n c)∧(∀(b0:Nat) (w0:World) L R,Kn b0 w0 w L R→Kn b0 w0 w' L (R++[row otLay (.slice A n c) l]))∧Below w.heap.size w w'
theorem sheld_any(y:Rf)(h:Bool)(w:World):Calls Tryz.prog 126 #[.agg #[.int .i64 y.c,.int .i64 y.e,.int .i64 y.r],.bool h] w (IsOt (Sto.held y h) w):=by
 have HK:=kn1 w 35 #[.int .i64 y.c,.int .i64 y.e,.int .i64 y.r]
 cases h
 ·show Calls _ _ _ _ (IsOt [] w)
  unfold IsOt
  go_enter Tryz.func126,Tryz.ntmps126
  go_wp2_with fail
  go_ret
  exact⟨_,_,_,rfl,fun b0 w0 L R h=>((h.call HK.out.b).nilR otLay),HK.out.b⟩
 ·show Calls _ _ _ _ (IsOt [⟨y,Sto.rz⟩] w)
  unfold IsOt
  go_enter Tryz.func126,Tryz.ntmps126
  go_wp2_with (first|refine wpList_exe (kexec_lr HK 0 _ (by rfl) (by rfl) (by rfl)) (by rfl) ?_|refine wpList_exe (exec_bo1 (r:=y) _ (by rfl) (by rfl)) (by rfl) ?_|(refine wpList_mk1 otLay (p:=⟨y,Sto.rz⟩) HK (by decide) rfl _ rfl rfl rfl ?_;intro w2 g5 HK';simp only[lcA,lnA] at HK';replace HK:=HK';clear HK'))
  go_ret
  exact⟨_,_,_,rfl,fun b0 w0 L R h=>h.called HK.out.b (HK.out.own 0 rfl),HK.out.b⟩
theorem checkNew_any(A B:Option Addr)(n c m d:Nat)(k:Bool)(w:World)(hk:k=decide (0<m)):
  Calls Tryz.prog 157 #[.slice A n c,.slice B m d] w (fun e w'=>e=.returned (.int .i64 (if k=true then 8 else if n=8 then 6 else 0))∧Below w.heap.size w w'):=by
 subst hk
 by_cases h:0<m
 ·rw[if_pos (decide_eq_true h)]
  go_enter Tryz.func157,Tryz.ntmps157
  go_wp2_with fail
  go_ret
  exact⟨rfl,Below.refl _ _⟩
 ·rw[if_neg (by simpa using h)]
  by_cases h2:n=8
  ·subst h2
   rw[if_pos rfl]
   go_enter Tryz.func157,Tryz.ntmps157
   go_wp2_with fail
   go_ret
   exact⟨rfl,Below.refl _ _⟩
  ·rw[if_neg h2]
   have h3:((n:Int)==8)=false:=by simpa using (by omega:¬(n:Int)=8)
   clear h2
   go_enter Tryz.func157,Tryz.ntmps157
   go_wp2_with fail
   go_ret
   exact⟨rfl,Below.refl _ _⟩
theorem ssize_any(x:Oh)(w:World)(hx:In w x):Calls Tryz.prog 171 #[.agg (obA x)] w (fun e w'=>e=.returned (.int .i64 (Sto.size x.v))∧Below w.heap.size w w'):=by
 have hp:=hx.p.len
 have hv:=hx.v.len
 have hr:=hx.r.len
 have HK:=kn1 w 60 (obA x)
 unfold Sto.size
 rw[hp,hv,hr]
 clear hp hv hr hx
 by_cases h1:x.v.kind=1
 ·rw[if_pos h1]
  go_enter Tryz.func171,Tryz.ntmps171
  go_wp2_with (first|refine wpList_exe (kob_k HK 0 _ (by rfl) (by rfl) (by rfl)) (by rfl) ?_|refine wpList_exe (kob_p HK 0 _ (by rfl) (by rfl) (by rfl)) (by rfl) ?_)
  go_ret
  exact⟨rfl,HK.out.b⟩
 rw[if_neg h1]
 by_cases h2:x.v.kind=2
 ·rw[if_pos h2]
  go_enter Tryz.func171,Tryz.ntmps171
  go_wp2_with (first|refine wpList_exe (kob_k HK 0 _ (by rfl) (by rfl) (by rfl)) (by rfl) ?_|refine wpList_exe (kob_v HK 0 _ (by rfl) (by rfl) (by rfl)) (by rfl) ?_)
  go_ret
  exact⟨rfl,HK.out.b⟩
 rw[if_neg h2]
 by_cases h5:x.v.kind=5
 ·rw[if_pos h5]
  go_enter Tryz.func171,Tryz.ntmps171
  go_wp2_with (first|refine wpList_exe (kob_k HK 0 _ (by rfl) (by rfl) (by rfl)) (by rfl) ?_|refine wpList_exe (kob_mn HK 0 _ (by rfl) (by rfl) (by rfl)) (by rfl) ?_)
  go_ret
  exact⟨rfl,HK.out.b⟩
 ·rw[if_neg h5]
  go_enter Tryz.func171,Tryz.ntmps171
  go_wp2_with (first|refine wpList_exe (kob_k HK 0 _ (by rfl) (by rfl) (by rfl)) (by rfl) ?_|refine wpList_exe (kob_r HK 0 _ (by rfl) (by rfl) (by rfl)) (by rfl) ?_)
  go_ret
  exact⟨rfl,HK.out.b⟩
end
section
open Go.RowKit
section
variable {b0:Nat}{w0 w:World}{L:List (Nat×TypeId×Array Value)}{R:List RowE}{ops:Array Oper}{rest:List Oper}{o:Oper}{a:Act}{Q:Exit→Act→World→Prop}
theorem wpList_akF(HK:Hid (Kn b0 w0 w L R))(hgd:o.guard=none)(ho:o.op=.alloc 116)
  (h:∀w' g,Hid (Kn b0 w0 w' (L++[(g,116,fl false false false false false false)]) R)→wpList Tryz.prog ops Q rest (a.put o.dst (.pointer (some ⟨g,0,none⟩))) w'):wpList Tryz.prog ops Q (o::rest) a w:=
 wpList_plain hgd fun K hK=>by
  have h4:=h _ w.heap.size (zH (HK.out.alloc _ _))
  unfold Oper.wp execOp
  simp only[ho]
  unfold fl at h4
  go_simp
  exact hK _ _ h4
theorem wpList_sfL(HK:Hid (Kn b0 w0 w L R))(i:Nat)(hgd:o.guard=none)(p q:Operand)(ho:o.op=.store 116 p q){g:Nat}{x0 x1 x2 x3 x4 x5 y0 y1 y2 y3 y4 y5:Bool}(hL:L[i]?=some (g,116,fl x0 x1 x2 x3 x4 x5))(hx:a.eval p=.pointer (some ⟨g,0,none⟩))(hy:a.eval q=.agg (fl y0 y1 y2 y3 y4 y5))
  (h:∀w',Hid (Kn b0 w0 w' (L.set i (g,116,fl y0 y1 y2 y3 y4 y5)) R)→Hid (w'.heap.size=w.heap.size)→wpList Tryz.prog ops Q rest (a.put o.dst undef) w'):wpList Tryz.prog ops Q (o::rest) a w:=
 wpList_ss HK i hgd _ p q ho hL hx hy (by show 6≤6;decide) info_fl (by simp[fl,Value.oneCell']) fun w' h1 h2=>h w' (by
  have e:putCells (fl x0 x1 x2 x3 x4 x5) 0 (fl y0 y1 y2 y3 y4 y5).toList=fl y0 y1 y2 y3 y4 y5:=by
   rw[putCells_all (vs:=(fl y0 y1 y2 y3 y4 y5).toList) (cs:=fl x0 x1 x2 x3 x4 x5) rfl,Array.toArray_toList]
  rw[e] at h1
  exact h1) h2
end
def at6(b0 b1 b2 b3 b4 b5:Bool):Nat→Bool
 | 0=>b0
 | 1=>b1
 | 2=>b2
 | 3=>b3
 | 4=>b4
 | _=>b5
theorem at6_cell{b0 b1 b2 b3 b4 b5:Bool}{k:Nat}(h:k<6):(fl b0 b1 b2 b3 b4 b5)[k]?=some (.bool (at6 b0 b1 b2 b3 b4 b5 k)):=by
 match k,h with
 | 0,_|1,_|2,_|3,_|4,_|5,_=>rfl
theorem others_at(c:Cmd.C){b0 b1 b2 b3 b4 b5:Bool}(h:(b0=false↔c.name.size=0)∧(b1=false↔c.key.size=0)∧(b2=false↔Cmd.nil c.val)∧(b3=false↔Cmd.nil c.old)∧(b4=false↔c.n=0)∧(b5=false↔c.m=0)):
  Cmd.others c↔∀j,j<6→¬(at6 b0 b1 b2 b3 b4 b5 j=true∧at6 (Cmd.f0 c.k) (Cmd.f1 c.k) (Cmd.f3 c.k) (Cmd.f2 c.k) (Cmd.f4 c.k) (Cmd.f5 c.k) j=false):=by
 obtain⟨h0,h1,h2,h3,h4,h5⟩:=h
 unfold Cmd.others
 rw[← h0,← h1,← h2,← h3,← h4,← h5]
 constructor
 ·rintro ⟨g0,g1,g2,g3,g4,g5⟩ j hj ⟨k1,k2⟩
  match j,hj with
  | 0,_=>simp_all [at6]
  | 1,_=>simp_all [at6]
  | 2,_=>simp_all [at6]
  | 3,_=>simp_all [at6]
  | 4,_=>simp_all [at6]
  | 5,_=>simp_all [at6]
 ·intro h
  have k0:=h 0 (by decide)
  have k1:=h 1 (by decide)
  have k2:=h 2 (by decide)
  have k3:=h 3 (by decide)
  have k4:=h 4 (by decide)
  have k5:=h 5 (by decide)
  simp only[at6,not_and,Bool.not_eq_false] at k0 k1 k2 k3 k4 k5
  refine⟨?_,?_,?_,?_,?_,?_⟩
  ·cases hb:b0<;>simp_all
  ·cases hb:b1<;>simp_all
  ·cases hb:b3<;>simp_all
  ·cases hb:b2<;>simp_all
  ·cases hb:b4<;>simp_all
  ·cases hb:b5<;>simp_all
theorem cnames_any(c:Cmd.C)(w:World):Calls Tryz.prog 78 #[.agg (cmA c)] w fun en w'=>en=.returned (.int .i64 (Cmd.cN c))∧Below w.heap.size w w':=by
 have HN:=zH (fun W=>cnamed_any c.k W)
 have HF:=zH (fun W=>cfilled_any c W)
 have HOth:=zH (fun b0 b1 b2 b3 b4 b5 h=>others_at c (b0:=b0) (b1:=b1) (b2:=b2) (b3:=b3) (b4:=b4) (b5:=b5) h)
 have HE:Hid (∀x:Int,Cmd.cN c=x→∀(en:Ending) (w':World),(en=.returned (.int .i64 x)∧Below w.heap.size w w')→(en=.returned (.int .i64 (Cmd.cN c))∧Below w.heap.size w w')):=zH fun x hx en w' h=>by rw[hx];exact h
 have h1:¬(1≤c.k∧c.k≤18)→Cmd.cN c=1:=fun h=>if_pos (by omega)
 have h2:Cmd.f0 c.k=true→c.name.size=0→Cmd.cN c=1:=fun h h'=>if_pos (.inr (.inr (.inr ⟨h,h'⟩)))
 have h3:¬Cmd.others c→Cmd.cN c=1:=fun h=>if_pos (.inr (.inr (.inl h)))
 have h4:(1≤c.k∧c.k≤18)→(Cmd.f0 c.k=true→¬c.name.size=0)→Cmd.others c→Cmd.cN c=0:=fun h h' h''=>if_neg (by rintro (g|g|g|g);omega;omega;exact g h'';exact h' g.1 g.2)
 have H1:=zH h1
 have H2:=zH h2
 have H3:=zH h3
 have H4:=zH h4
 clear h1 h2 h3 h4
 generalize Cmd.cN c=z at *
 generalize Cmd.f0 c.k=a0 at *
 generalize Cmd.f1 c.k=a1 at *
 generalize Cmd.f2 c.k=a2 at *
 generalize Cmd.f3 c.k=a3 at *
 generalize Cmd.f4 c.k=a4 at *
 generalize Cmd.f5 c.k=a5 at *
 generalize hok:decide (1≤c.k∧c.k≤18)=ok at *
 have HOK:=zH hok
 clear hok
 obtain⟨k,name,key,⟨vk,vn,vf,vs⟩,⟨o1,on,of,os⟩,n,m⟩:=c
 unfold cmA IsN IsFl at *
 simp only at *
 have HK:=kn1 w 37 (cmC k name key vk vn vf vs o1 on of os n m)
 go_enter Tryz.func78,Tryz.ntmps78
 go_wp2_with (first|refine wpList_of_exec (by rfl) (kexec_bi HK 0 _ rfl rfl rfl rfl) ?_)
 refine(HN.out _).mono ?_;rintro e w1 ⟨rfl,x1⟩
 replace HK:=hkC HK x1
 clear x1
 go_upto_region 2 with (first|(refine wpList_akF HK rfl rfl ?_;intro _ g3 HK';simp only[lcA,lnA] at HK';replace HK:=HK';clear HK')|(refine wpList_sfL HK 1 rfl _ _ rfl rfl rfl rfl ?_;intro _ HK' _;simp only[List.set] at HK';replace HK:=HK';clear HK'))
 go_wp2_with (first|refine wpList_of_exec (by rfl) (kexec_cm HK 0 _ rfl rfl rfl) ?_)
 refine(HF.out _).mono ?_;rintro e w2 ⟨b0,b1,b2,b3,b4,b5,rfl,hb,x2⟩
 replace HK:=hkC HK x2
 have HB:=zH hb
 have HO2:=zH (HOth.out _ _ _ _ _ _ hb)
 clear x2 hb HOth
 go_upto_region 3 with (first|(refine wpList_akF HK rfl rfl ?_;intro _ g4 HK';simp only[lcA,lnA] at HK';replace HK:=HK';clear HK')|(refine wpList_sfL HK 2 rfl _ _ rfl rfl rfl rfl ?_;intro wz HK' _;simp only[List.set] at HK';replace HK:=HK';clear HK'))
 have y0_:=HK.out.cell 1 rfl 0 (v:=.bool a0) rfl
 have y1_:=HK.out.cell 2 rfl 0 (v:=.bool b0) rfl
 cases ok
 ·go_wp2_with fail
  go_ret
  exact HE.out 1 (H1.out (of_decide_eq_false HOK.out)) _ _ ⟨rfl,HK.out.b⟩
 have hq:(a0=true∧b0=false)∨(a0=false)∨(a0=true∧b0=true):=by cases a0<;>cases b0<;>simp
 rcases hq with ⟨rfl,rfl⟩|hq
 ·go_wp2_with fail
  go_ret
  exact HE.out 1 (H2.out (by simp) (HB.out.1.1 (by simp))) _ _ ⟨rfl,HK.out.b⟩
 have HNM:Hid (a0=true→¬name.size=0):=zH fun h h'=>by
  have:=HB.out.1.2 h'
  rcases hq with hq|hq<;>simp_all
 have HG:Hid (∀j,j<6→wz.cell? ⟨g3,j,none⟩=some (.bool (at6 a0 a1 a3 a2 a4 a5 j))∧wz.cell? ⟨g4,j,none⟩=some (.bool (at6 b0 b1 b2 b3 b4 b5 j))):=zH fun j hj=>And.intro (HK.out.cell 1 rfl j (at6_cell hj)) (HK.out.cell 2 rfl j (at6_cell hj))
 have HKB:=zH HK.out.b
 clear HK HB
 generalize HA:at6 a0 a1 a3 a2 a4 a5=fa at *
 generalize HBf:at6 b0 b1 b2 b3 b4 b5=fb at *
 clear HA HBf
 have hk1:of_decide_eq_true HOK.out=of_decide_eq_true HOK.out:=rfl
 clear hk1
 have HOK2:=zH (of_decide_eq_true HOK.out)
 clear HOK HN HF
 rcases hq with rfl|⟨rfl,rfl⟩
 all_goals
  go_wp2_with fail
  go_loopw [26] (fun vi wr=>∃k:Nat,k≤6∧vi=.int .i64 k∧wr=wz∧Hid (∀j,j<k→¬(fb j=true∧fa j=false))) (fun vi _=>6-(intOf vi).toNat)
  case atStart=>exact⟨0,Nat.zero_le _,rfl,rfl,zH fun j hj=>absurd hj (by omega)⟩
  case round=>
   obtain⟨q,hq,rfl,rfl,hh⟩:=hrel
   by_cases hlt:q<6
   ·obtain⟨c1,c2⟩:=HG.out q hlt
    have hk1:(0:Int)≤(q:Int):=by omega
    have hk2:(q:Int)<6:=by omega
    have HS:Hid (¬(fb q=true∧fa q=false)→∀j,j<q+1→¬(fb j=true∧fa j=false)):=zH fun h j hj=>by
     by_cases e:j=q
     ·subst e;exact h
     ·exact hh.out j (by omega)
    have HX:Hid ((fb q=true∧fa q=false)→z=1):=zH fun h=>H3.out fun ho=>HO2.out.1 ho q hlt h
    generalize fa q=xa at *
    generalize fb q=xb at *
    have hc:xb=false∨(xb=true∧xa=true)∨(xb=true∧xa=false):=by cases xa<;>cases xb<;>simp
    rcases hc with rfl|⟨rfl,rfl⟩|⟨rfl,rfl⟩
    ·go_wp2_with fail
     exact⟨⟨q+1,by omega,by go_num,by simp,zH (HS.out (by simp))⟩,by simp[intOf];omega⟩
    ·go_wp2_with fail
     exact⟨⟨q+1,by omega,by go_num,by simp,zH (HS.out (by simp))⟩,by simp[intOf];omega⟩
    ·go_wp2_with fail
     go_ret
     exact HE.out 1 (HX.out (by simp)) _ _ ⟨rfl,HKB.out⟩
   ·obtain rfl:q=6:=by omega
    go_wp2_with fail
    go_ret
    exact HE.out 0 (H4.out HOK2.out HNM.out (HO2.out.2 hh.out)) _ _ ⟨rfl,HKB.out⟩
end
section
open Go.RowKit
theorem isH{k:Int}{b0 b1 b2 b3 b4 b5 ok:Bool}{w:World}{e:Ending}{w':World}(h:IsN b0 b1 b2 b3 b4 b5 ok w e w')(e0:Sto.h0 k=b0)(e1:Sto.h1 k=b1)(e2:Sto.h2 k=b2)(e3:Sto.h3 k=b3)(e4:Sto.h4 k=b4)(e5:Sto.h5 k=b5)(e6:Sto.is k=ok):
  IsN (Sto.h0 k) (Sto.h1 k) (Sto.h2 k) (Sto.h3 k) (Sto.h4 k) (Sto.h5 k) (Sto.is k) w e w':=by
 rw[e0,e1,e2,e3,e4,e5,e6];exact h
theorem having_any(k:Int)(w:World):Calls Tryz.prog 104 #[.int .i64 k] w (IsN (Sto.h0 k) (Sto.h1 k) (Sto.h2 k) (Sto.h3 k) (Sto.h4 k) (Sto.h5 k) (Sto.is k) w):=by
 have hk:k=1∨k=2∨k=3∨k=4∨k=5∨¬(1≤k∧k≤5):=by omega
 rcases hk with rfl|rfl|rfl|rfl|rfl|h
 case inr.inr.inr.inr.inr=>
  have n1:¬k=1:=by omega
  have n2:¬k=2:=by omega
  have n3:¬k=3:=by omega
  have n4:¬k=4:=by omega
  have n5:¬k=5:=by omega
  refine Calls.mono (R:=IsN false false false false false false false w) ?_ fun e w' hh=>isH hh (by unfold Sto.h0;simp[n2,n4]) (by unfold Sto.h1;simp[n1]) (by unfold Sto.h2;simp[n2]) (by unfold Sto.h3;simp[n3,n4]) (by unfold Sto.h4;simp[n4]) (by unfold Sto.h5;simp[n5]) (by unfold Sto.is;simp;omega)
  clear h
  go_enter Tryz.func104,Tryz.ntmps104
  go_wp2_with fail
  exact ret_fln Tryz.results104 rfl rfl rfl (Blk.new w _ _) ⟨rfl,(Below.refl _ w).alloc (Nat.le_refl _) _⟩
 all_goals
  go_enter Tryz.func104,Tryz.ntmps104
  go_wp2_with fail
  exact ret_fln Tryz.results104 rfl rfl rfl (Blk.new w _ _) ⟨rfl,(Below.refl _ w).alloc (Nat.le_refl _) _⟩
theorem exec_mne{w:World}{o:Oper}{a:Act}{x y:Mtr}{b:Bool}(p q:Operand)(ho:o.op=.binOp .neq 58 p q 58)(hx:a.eval p=.agg #[.int .i64 x.n,.int .u64 (x.s:Int),.int .u64 (x.l:Int),.int .u64 (x.m:Int)])(hy:a.eval q=.agg #[.int .i64 y.n,.int .u64 (y.s:Int),.int .u64 (y.l:Int),.int .u64 (y.m:Int)])(hb:(!decide (x=y))=b):
  (execOp a.eval o).run Tryz.prog w=.ok (.value (.bool b)) w:=by
 rw[meq_all] at hb
 subst hb
 unfold execOp
 simp only[ho,hx,hy]
 go_simp
 by_cases h1:x.n=y.n<;>by_cases h2:(x.s:Int)=(y.s:Int)<;>by_cases h3:(x.l:Int)=(y.l:Int)<;>by_cases h4:(x.m:Int)=(y.m:Int)<;>simp[h1,h2,h3,h4]
theorem sfilled_any(x:Oh)(w:World)(hx:In w x):Calls Tryz.prog 105 #[.agg (obA x)] w (IsF (Sto.f0 x.v) (Sto.f1 x.v) (Sto.f2 x.v) (Sto.f3 x.v) (Sto.f4 x.v) (Sto.f5 x.v) w):=by
 have hp:=hx.p.len
 have hv:=hx.v.len
 have hr:=hx.r.len
 unfold IsF Sto.f0 Sto.f1 Sto.f2 Sto.f3 Sto.f4 Sto.f5
 rw[hp,hv,hr]
 clear hp hv hr hx
 have HK:=kn2 w 60 (obA x) 116 (fl false false false false false false)
 go_enter Tryz.func105,Tryz.ntmps105
 go_wp2_with fail
 replace HK:=zH HK.out.drew
 refine wp_region_held_drew (S:=(fun W=>Hid (Kn w.heap.size w W [(w.heap.size,60,obA x)] []))) (by kernel_rfl) ?_ (fun hHeld=>?_)
 ·(try dsimp only);exact zH (HK.out.takeL 1)
 refine wpAnyH_take (i:=0) (oi:=⟨some 3,_,_,_,_,_⟩) (v:=?_) rfl (by kernel_rfl) (by kernel_rfl) (by kernel_rfl) (fun _ _ _ h=>h) (Or.inl ⟨by rfl,?_⟩) (by assumption) ?_
 rotate_left
 ·(intro w hSw;(try dsimp only at hSw);go_simp;try with_reducible rfl)
 try simp only[Act.put,List.setIfInBounds_toArray,List.set_cons_zero,List.set_cons_succ]
 refine wpAnyH_take (i:=1) (oi:=⟨some 4,_,_,_,_,_⟩) (v:=?_) rfl (by kernel_rfl) (by kernel_rfl) (by kernel_rfl) (fun _ _ _ h=>h) (Or.inl ⟨by rfl,?_⟩) (by assumption) ?_
 rotate_left
 ·(intro w hSw;refine Eq.trans (kob_c hSw 0 _ (by rfl) (by rfl) (by rfl)) ?_;with_reducible rfl)
 try simp only[Act.put,List.setIfInBounds_toArray,List.set_cons_zero,List.set_cons_succ]
 refine wpAnyH_take (i:=2) (oi:=⟨some 5,_,_,_,_,_⟩) (v:=?_) rfl (by kernel_rfl) (by kernel_rfl) (by kernel_rfl) (fun _ _ _ h=>h) (Or.inl ⟨by rfl,?_⟩) (by assumption) ?_
 rotate_left
 ·(intro w hSw;(try dsimp only at hSw);go_simp;try with_reducible rfl)
 try simp only[Act.put,List.setIfInBounds_toArray,List.set_cons_zero,List.set_cons_succ]
 refine wpAnyH_take (i:=3) (oi:=⟨some 6,_,_,_,_,_⟩) (v:=?_) rfl (by kernel_rfl) (by kernel_rfl) (by kernel_rfl) (fun _ _ _ h=>h) (Or.inl ⟨by rfl,?_⟩) (by assumption) ?_
 rotate_left
 ·(intro w hSw;(try dsimp only at hSw);go_simp;try with_reducible rfl)
 try simp only[Act.put,List.setIfInBounds_toArray,List.set_cons_zero,List.set_cons_succ]
 refine wpAnyH_take (i:=4) (oi:=⟨some 7,_,_,_,_,_⟩) (v:=?_) rfl (by kernel_rfl) (by kernel_rfl) (by kernel_rfl) (fun _ _ _ h=>h) (Or.inl ⟨by rfl,?_⟩) (by assumption) ?_
 rotate_left
 ·(intro w hSw;refine Eq.trans (kob_p hSw 0 _ (by rfl) (by rfl) (by rfl)) ?_;with_reducible rfl)
 try simp only[Act.put,List.setIfInBounds_toArray,List.set_cons_zero,List.set_cons_succ]
 refine wpAnyH_take (i:=5) (oi:=⟨some 8,_,_,_,_,_⟩) (v:=?_) rfl (by kernel_rfl) (by kernel_rfl) (by kernel_rfl) (fun _ _ _ h=>h) (Or.inl ⟨by rfl,?_⟩) (by assumption) ?_
 rotate_left
 ·(intro w hSw;(try dsimp only at hSw);go_simp;try with_reducible rfl)
 try simp only[Act.put,List.setIfInBounds_toArray,List.set_cons_zero,List.set_cons_succ]
 refine wpAnyH_take (i:=6) (oi:=⟨some 9,_,_,_,_,_⟩) (v:=?_) rfl (by kernel_rfl) (by kernel_rfl) (by kernel_rfl) (fun _ _ _ h=>h) (Or.inl ⟨by rfl,?_⟩) (by assumption) ?_
 rotate_left
 ·(intro w hSw;(try dsimp only at hSw);go_simp;try with_reducible rfl)
 try simp only[Act.put,List.setIfInBounds_toArray,List.set_cons_zero,List.set_cons_succ]
 refine wpAnyH_take (i:=7) (oi:=⟨some 10,_,_,_,_,_⟩) (v:=?_) rfl (by kernel_rfl) (by kernel_rfl) (by kernel_rfl) (fun _ _ _ h=>h) (Or.inl ⟨by rfl,?_⟩) (by assumption) ?_
 rotate_left
 ·(intro w hSw;(try dsimp only at hSw);go_simp;try with_reducible rfl)
 try simp only[Act.put,List.setIfInBounds_toArray,List.set_cons_zero,List.set_cons_succ]
 refine wpAnyH_take (i:=8) (oi:=⟨some 11,_,_,_,_,_⟩) (v:=?_) rfl (by kernel_rfl) (by kernel_rfl) (by kernel_rfl) (fun _ _ _ h=>h) (Or.inl ⟨by rfl,?_⟩) (by assumption) ?_
 rotate_left
 ·(intro w hSw;refine Eq.trans (kob_v hSw 0 _ (by rfl) (by rfl) (by rfl)) ?_;with_reducible rfl)
 try simp only[Act.put,List.setIfInBounds_toArray,List.set_cons_zero,List.set_cons_succ]
 refine wpAnyH_take (i:=9) (oi:=⟨some 12,_,_,_,_,_⟩) (v:=?_) rfl (by kernel_rfl) (by kernel_rfl) (by kernel_rfl) (fun _ _ _ h=>h) (Or.inl ⟨by rfl,?_⟩) (by assumption) ?_
 rotate_left
 ·(intro w hSw;(try dsimp only at hSw);go_simp;try with_reducible rfl)
 try simp only[Act.put,List.setIfInBounds_toArray,List.set_cons_zero,List.set_cons_succ]
 refine wpAnyH_take (i:=10) (oi:=⟨some 13,_,_,_,_,_⟩) (v:=?_) rfl (by kernel_rfl) (by kernel_rfl) (by kernel_rfl) (fun _ _ _ h=>h) (Or.inl ⟨by rfl,?_⟩) (by assumption) ?_
 rotate_left
 ·(intro w hSw;(try dsimp only at hSw);go_simp;try with_reducible rfl)
 try simp only[Act.put,List.setIfInBounds_toArray,List.set_cons_zero,List.set_cons_succ]
 refine wpAnyH_take (i:=11) (oi:=⟨some 14,_,_,_,_,_⟩) (v:=?_) rfl (by kernel_rfl) (by kernel_rfl) (by kernel_rfl) (fun _ _ _ h=>h) (Or.inl ⟨by rfl,?_⟩) (by assumption) ?_
 rotate_left
 ·(intro w hSw;(try dsimp only at hSw);go_simp;try with_reducible rfl)
 try simp only[Act.put,List.setIfInBounds_toArray,List.set_cons_zero,List.set_cons_succ]
 refine wpAnyH_take (i:=12) (oi:=⟨some 15,_,_,_,_,_⟩) (v:=?_) rfl (by kernel_rfl) (by kernel_rfl) (by kernel_rfl) (fun _ _ _ h=>h) (Or.inl ⟨by rfl,?_⟩) (by assumption) ?_
 rotate_left
 ·(intro w hSw;refine Eq.trans (kob_r hSw 0 _ (by rfl) (by rfl) (by rfl)) ?_;with_reducible rfl)
 try simp only[Act.put,List.setIfInBounds_toArray,List.set_cons_zero,List.set_cons_succ]
 refine wpAnyH_take (i:=13) (oi:=⟨some 16,_,_,_,_,_⟩) (v:=?_) rfl (by kernel_rfl) (by kernel_rfl) (by kernel_rfl) (fun _ _ _ h=>h) (Or.inl ⟨by rfl,?_⟩) (by assumption) ?_
 rotate_left
 ·(intro w hSw;(try dsimp only at hSw);go_simp;try with_reducible rfl)
 try simp only[Act.put,List.setIfInBounds_toArray,List.set_cons_zero,List.set_cons_succ]
 refine wpAnyH_take (i:=14) (oi:=⟨some 17,_,_,_,_,_⟩) (v:=?_) rfl (by kernel_rfl) (by kernel_rfl) (by kernel_rfl) (fun _ _ _ h=>h) (Or.inl ⟨by rfl,?_⟩) (by assumption) ?_
 rotate_left
 ·(intro w hSw;(try dsimp only at hSw);go_simp;try with_reducible rfl)
 try simp only[Act.put,List.setIfInBounds_toArray,List.set_cons_zero,List.set_cons_succ]
 refine wpAnyH_take (i:=15) (oi:=⟨some 18,_,_,_,_,_⟩) (v:=?_) rfl (by kernel_rfl) (by kernel_rfl) (by kernel_rfl) (fun _ _ _ h=>h) (Or.inl ⟨by rfl,?_⟩) (by assumption) ?_
 rotate_left
 ·(intro w hSw;(try dsimp only at hSw);go_simp;try with_reducible rfl)
 try simp only[Act.put,List.setIfInBounds_toArray,List.set_cons_zero,List.set_cons_succ]
 refine wpAnyH_take (i:=16) (oi:=⟨some 19,_,_,_,_,_⟩) (v:=?_) rfl (by kernel_rfl) (by kernel_rfl) (by kernel_rfl) (fun _ _ _ h=>h) (Or.inl ⟨by rfl,?_⟩) (by assumption) ?_
 rotate_left
 ·(intro w hSw;refine Eq.trans (kob_d hSw 0 _ (by rfl) (by rfl) (by rfl)) ?_;with_reducible rfl)
 try simp only[Act.put,List.setIfInBounds_toArray,List.set_cons_zero,List.set_cons_succ]
 refine wpAnyH_take (i:=17) (oi:=⟨some 20,_,_,_,_,_⟩) (v:=?_) rfl (by kernel_rfl) (by kernel_rfl) (by kernel_rfl) (fun _ _ _ h=>h) (Or.inl ⟨by rfl,?_⟩) (by assumption) ?_
 rotate_left
 ·(intro w hSw;(try dsimp only at hSw);go_simp;try with_reducible rfl)
 try simp only[Act.put,List.setIfInBounds_toArray,List.set_cons_zero,List.set_cons_succ]
 refine wpAnyH_take (i:=18) (oi:=⟨some 21,_,_,_,_,_⟩) (v:=?_) rfl (by kernel_rfl) (by kernel_rfl) (by kernel_rfl) (fun _ _ _ h=>h) (Or.inl ⟨by rfl,?_⟩) (by assumption) ?_
 rotate_left
 ·(intro w hSw;(try dsimp only at hSw);go_simp;try with_reducible rfl)
 try simp only[Act.put,List.setIfInBounds_toArray,List.set_cons_zero,List.set_cons_succ]
 refine wpAnyH_take (i:=19) (oi:=⟨some 22,_,_,_,_,_⟩) (v:=?_) rfl (by kernel_rfl) (by kernel_rfl) (by kernel_rfl) (fun _ _ _ h=>h) (Or.inl ⟨by rfl,?_⟩) (by assumption) ?_
 rotate_left
 ·(intro w hSw;refine Eq.trans (kob_m hSw 0 _ (by rfl) (by rfl) (by rfl)) ?_;with_reducible rfl)
 try simp only[Act.put,List.setIfInBounds_toArray,List.set_cons_zero,List.set_cons_succ]
 refine wpAnyH_take (i:=20) (oi:=⟨some 23,_,_,_,_,_⟩) (v:=?_) rfl (by kernel_rfl) (by kernel_rfl) (by kernel_rfl) (fun _ _ _ h=>h) (Or.inl ⟨by rfl,?_⟩) (by assumption) ?_
 rotate_left
 ·(intro w hSw;(try dsimp only at hSw);go_simp;try with_reducible rfl)
 try simp only[Act.put,List.setIfInBounds_toArray,List.set_cons_zero,List.set_cons_succ]
 refine wpAnyH_take (i:=21) (oi:=⟨some 24,_,_,_,_,_⟩) (v:=?_) rfl (by kernel_rfl) (by kernel_rfl) (by kernel_rfl) (fun _ _ _ h=>h) (Or.inl ⟨by rfl,?_⟩) (by assumption) ?_
 rotate_left
 ·(intro w hSw;refine Eq.trans (exec_mne (x:=x.v.mt) (y:=Mt.zero) _ _ (by rfl) (by rfl) (by rfl) (b:=!decide (x.v.mt=Mt.zero)) rfl) ?_;with_reducible rfl)
 try simp only[Act.put,List.setIfInBounds_toArray,List.set_cons_zero,List.set_cons_succ]
 refine wpAnyH_take (i:=22) (oi:=⟨some 25,_,_,_,_,_⟩) (v:=?_) rfl (by kernel_rfl) (by kernel_rfl) (by kernel_rfl) (fun _ _ _ h=>h) (Or.inl ⟨by rfl,?_⟩) (by assumption) ?_
 rotate_left
 ·(intro w hSw;(try dsimp only at hSw);go_simp;try with_reducible rfl)
 try simp only[Act.put,List.setIfInBounds_toArray,List.set_cons_zero,List.set_cons_succ]
 refine wpAnyH_ready (rs:=[23]) (by kernel_rfl) (by simp) ?_
 refine AllReadyH.cons (o:=⟨none,_,_,_,_,_⟩) rfl (fun K hK=>?_) AllReadyH.nil
 refine step_ss HK 1 (by rfl) _ _ _ (by rfl) (by rfl) (by rfl) (by rfl) (by show 6≤6;decide) info_fl (by simp[Value.oneCell']) ?_;intro _ HK' _;simp only[List.set] at HK';replace HK:=HK';clear HK';have hs:=zH (HK.out.takeL 1)
 refine hK.out _ _ hs (fun hHeld=>?_)
 clear hK K
 try simp only[ap1,ap2,ap3,ap4,ap5]
 refine wpAnyH_done (by kernel_rfl) ?_ _
 go_wp2_with fail
 refine ret_fl (b0:=!decide (x.v.cap=0)) (b1:=decide (0<x.pn)) (b2:=decide (0<x.vn)) (b3:=decide (0<x.rn)) (b4:=!decide (x.v.round=0)) Tryz.results105 rfl rfl ?_ ⟨rfl,HK.out.b⟩
 have hb:=HK.out.blk 1 rfl
 clear HK hHeld
 simp[putCells,fl] at hb ⊢
 exact hb
theorem clean_at(o:Sto.Ob):Sto.clean o=true↔Sto.is o.kind=true∧∀j,j<6→¬(at6 (Sto.f0 o) (Sto.f1 o) (Sto.f2 o) (Sto.f3 o) (Sto.f4 o) (Sto.f5 o) j=true∧at6 (Sto.h0 o.kind) (Sto.h1 o.kind) (Sto.h2 o.kind) (Sto.h3 o.kind) (Sto.h4 o.kind) (Sto.h5 o.kind) j=false):=by
 unfold Sto.clean
 generalize Sto.f0 o=b0
 generalize Sto.f1 o=b1
 generalize Sto.f2 o=b2
 generalize Sto.f3 o=b3
 generalize Sto.f4 o=b4
 generalize Sto.f5 o=b5
 generalize Sto.h0 o.kind=a0
 generalize Sto.h1 o.kind=a1
 generalize Sto.h2 o.kind=a2
 generalize Sto.h3 o.kind=a3
 generalize Sto.h4 o.kind=a4
 generalize Sto.h5 o.kind=a5
 have key:∀b a:Bool,(!b || a)=true↔¬(b=true∧a=false):=fun b a=>by cases b<;>cases a<;>simp
 simp only[Bool.and_eq_true,key]
 constructor
 ·rintro ⟨h,⟨⟨⟨⟨⟨g0,g1⟩,g2⟩,g3⟩,g4⟩,g5⟩⟩
  refine⟨h,fun j hj=>?_⟩
  match j,hj with
  | 0,_=>exact g0
  | 1,_=>exact g1
  | 2,_=>exact g2
  | 3,_=>exact g3
  | 4,_=>exact g4
  | 5,_=>exact g5
 ·rintro ⟨h,g⟩
  exact⟨h,⟨⟨⟨⟨⟨g 0 (by decide),g 1 (by decide)⟩,g 2 (by decide)⟩,g 3 (by decide)⟩,g 4 (by decide)⟩,g 5 (by decide)⟩⟩
theorem clean_any(x:Oh)(w:World)(hx:In w x):Calls Tryz.prog 66 #[.agg (obA x)] w (IsB (Sto.clean x.v) w):=by
 have HN:=zH (fun W=>having_any x.v.kind W)
 have HF:=zH (fun W (hW:Below w.heap.size w W)=>sfilled_any x W (hx.later hW))
 have H0:=zH (clean_at x.v)
 clear hx
 unfold IsB IsN IsF at *
 generalize Sto.clean x.v=z at *
 generalize Sto.h0 x.v.kind=a0 at *
 generalize Sto.h1 x.v.kind=a1 at *
 generalize Sto.h2 x.v.kind=a2 at *
 generalize Sto.h3 x.v.kind=a3 at *
 generalize Sto.h4 x.v.kind=a4 at *
 generalize Sto.h5 x.v.kind=a5 at *
 generalize Sto.is x.v.kind=ok at *
 generalize Sto.f0 x.v=b0 at *
 generalize Sto.f1 x.v=b1 at *
 generalize Sto.f2 x.v=b2 at *
 generalize Sto.f3 x.v=b3 at *
 generalize Sto.f4 x.v=b4 at *
 generalize Sto.f5 x.v=b5 at *
 have HK:=kn1 w 60 (obA x)
 go_enter Tryz.func66,Tryz.ntmps66
 go_wp2_with (first|refine wpList_exe (kob_k HK 0 _ (by rfl) (by rfl) (by rfl)) (by rfl) ?_)
 refine(HN.out _).mono ?_;rintro e w1 ⟨rfl,x1⟩
 replace HK:=hkC HK x1
 clear x1
 go_upto_region 2 with (first|(refine wpList_akF HK rfl rfl ?_;intro _ g3 HK';simp only[lcA,lnA] at HK';replace HK:=HK';clear HK')|(refine wpList_sfL HK 1 rfl _ _ rfl rfl rfl rfl ?_;intro _ HK' _;simp only[List.set] at HK';replace HK:=HK';clear HK'))
 go_wp2_with (first|refine wpList_exe (kob HK 0 _ (by rfl) (by rfl) (by rfl)) (by rfl) ?_)
 refine(HF.out _ HK.out.b).mono ?_;rintro e w2 ⟨rfl,x2⟩
 replace HK:=hkC HK x2
 clear x2
 go_upto_region 3 with (first|(refine wpList_akF HK rfl rfl ?_;intro _ g4 HK';simp only[lcA,lnA] at HK';replace HK:=HK';clear HK')|(refine wpList_sfL HK 2 rfl _ _ rfl rfl rfl rfl ?_;intro wz HK' _;simp only[List.set] at HK';replace HK:=HK';clear HK'))
 have HG:Hid (∀j,j<6→wz.cell? ⟨g3,j,none⟩=some (.bool (at6 a0 a1 a2 a3 a4 a5 j))∧wz.cell? ⟨g4,j,none⟩=some (.bool (at6 b0 b1 b2 b3 b4 b5 j))):=zH fun j hj=>And.intro (HK.out.cell 1 rfl j (at6_cell hj)) (HK.out.cell 2 rfl j (at6_cell hj))
 have HKB:=zH HK.out.b
 clear HK HN HF
 generalize HA:at6 a0 a1 a2 a3 a4 a5=fa at *
 generalize HBf:at6 b0 b1 b2 b3 b4 b5=fb at *
 clear HA HBf
 go_wp2_with fail
 go_loopw [15] (fun vi wr=>∃k:Nat,k≤6∧vi=.int .i64 k∧wr=wz∧Hid (∀j,j<k→¬(fb j=true∧fa j=false))) (fun vi _=>6-(intOf vi).toNat)
 case atStart=>exact⟨0,Nat.zero_le _,rfl,rfl,zH fun j hj=>absurd hj (by omega)⟩
 case round=>
  obtain⟨q,hq,rfl,rfl,hh⟩:=hrel
  by_cases hlt:q<6
  ·obtain⟨c1,c2⟩:=HG.out q hlt
   have hk1:(0:Int)≤(q:Int):=by omega
   have hk2:(q:Int)<6:=by omega
   have HS:Hid (¬(fb q=true∧fa q=false)→∀j,j<q+1→¬(fb j=true∧fa j=false)):=zH fun h j hj=>by
    by_cases e:j=q
    ·subst e;exact h
    ·exact hh.out j (by omega)
   have HX:Hid ((fb q=true∧fa q=false)→z=false):=zH fun h=>Bool.eq_false_iff.2 fun hz=>(H0.out.1 hz).2 q hlt h
   generalize fa q=xa at *
   generalize fb q=xb at *
   have hc:xb=false∨(xb=true∧xa=true)∨(xb=true∧xa=false):=by cases xa<;>cases xb<;>simp
   rcases hc with rfl|⟨rfl,rfl⟩|⟨rfl,rfl⟩
   ·go_wp2_with fail
    exact⟨⟨q+1,by omega,by go_num,by simp,zH (HS.out (by simp))⟩,by simp[intOf];omega⟩
   ·go_wp2_with fail
    exact⟨⟨q+1,by omega,by go_num,by simp,zH (HS.out (by simp))⟩,by simp[intOf];omega⟩
   ·go_wp2_with fail
    go_ret
    have hz:=HX.out (by simp)
    subst hz
    exact⟨rfl,HKB.out⟩
  ·obtain rfl:q=6:=by omega
   have hz:z=ok:=by
    cases ok
    ·exact Bool.eq_false_iff.2 fun hz=>by cases (H0.out.1 hz).1
    ·exact H0.out.2 ⟨rfl,hh.out⟩
   subst hz
   go_wp2_with fail
   go_ret
   exact⟨rfl,HKB.out⟩
end
section
open Go.RowKit
def nz2(a b:Int):Int:=if a=0 then b else a
theorem or2_any(g:Nat)(a b:Int)(w:World)(h0:w.cell? ⟨g,0,none⟩=some (.int .i64 a))(h1:w.cell? ⟨g,1,none⟩=some (.int .i64 b)):
  Calls Tryz.prog 77 #[.slice (some ⟨g,0,none⟩) 2 2] w fun e w'=>e=.returned (.int .i64 (nz2 a b))∧w'=w:=by
 unfold nz2
 by_cases ha:a=0
 ·subst ha
  rw[if_pos rfl]
  by_cases hb:b=0
  ·subst hb
   go_enter Tryz.func77,Tryz.ntmps77
   go_wp2
   go_rounds 3
   all_goals
    go_ret
    exact⟨rfl,rfl⟩
  ·have hb2:(b != 0)=true:=by simpa using hb
   go_enter Tryz.func77,Tryz.ntmps77
   go_wp2
   go_rounds 3
   all_goals
    go_ret
    exact⟨rfl,rfl⟩
 ·rw[if_neg ha]
  have ha2:(a != 0)=true:=by simpa using ha
  go_enter Tryz.func77,Tryz.ntmps77
  go_wp2
  go_rounds 3
  all_goals
   go_ret
   exact⟨rfl,rfl⟩
theorem or2a_any(a b:Int)(W:World)(t:TypeId)(g:Nat)(hg:g=W.heap.size):Calls Tryz.prog 77 #[.slice (some ⟨g,0,none⟩) 2 2] (W.alloc (.cells #[.int .i64 a,.int .i64 b] t)) fun en w'=>en=.returned (.int .i64 (nz2 a b))∧w'=W.alloc (.cells #[.int .i64 a,.int .i64 b] t):=by
 subst hg
 exact or2_any _ a b _ (by rw[World.cell?_alloc_new];rfl) (by rw[World.cell?_alloc_new];rfl)
end
section
open Go.RowKit
theorem pchk_any(key:ByteArray)(v:Val.V)(w:World)(hf:v.f<18446744073709551616):
  Calls Tryz.prog 147 #[.string key,vv v] w (IsE (Dct.pchk key v) w):=by
 have HC:=zH (fun W=>check_any v W hf)
 clear hf
 unfold Dct.pchk
 obtain⟨k,n,f,s⟩:=v
 unfold vv IsE at *
 simp only at HC ⊢
 generalize Val.chk ⟨k,n,f,s⟩=z at *
 have HK:=kn1 w 26 (vC k n f s)
 unfold vC at HK
 by_cases hk:k=0
 ·subst hk
  rw[if_pos rfl]
  go_enter Tryz.func147,Tryz.ntmps147
  go_wp2_with fail
  go_ret
  exact⟨rfl,HK.out.b⟩
 ·rw[if_neg hk]
  have hk2:(k==0)=false:=by simpa using hk
  by_cases hl:64<key.size
  ·rw[if_pos hl]
   have hl2:64<(key.size:Int):=by omega
   go_enter Tryz.func147,Tryz.ntmps147
   go_wp2_with fail
   go_ret
   exact⟨rfl,HK.out.b⟩
  ·rw[if_neg hl]
   have hl2:¬64<(key.size:Int):=by omega
   go_enter Tryz.func147,Tryz.ntmps147
   go_wp2_with (first|refine wpList_of_exec (by rfl) (kexec_vv HK 0 _ rfl rfl rfl) ?_)
   refine(HC.out _).mono ?_;rintro e w1 ⟨rfl,b1⟩
   replace HK:=hkC HK b1
   go_wp2_with fail
   go_ret
   exact⟨rfl,HK.out.b⟩
end
end Go.Proofs.YtddpmlcpfmmbeaaGreat
