/- What a session's end leaves, object by object: the rounds of a loop, pure; how what is told lies. No condition but those named. -/
import Derived.Test.YtddpmlcpfmmbeaaGreatTk
import Derived.Test.YtddpmlcpfmmbeaaGreatKBB
import Derived.Test.YtddpmlcpfmmbeaaGreatKAK
import Derived.Test.YtddpmlcpfmmbeaaGreatKAD
import Derived.Test.YtddpmlcpfmmbeaaGreatKAF
import Derived.Test.YtddpmlcpfmmbeaaGreatKAU
import Derived.Deep.MidRow
set_option linter.unusedSimpArgs false
set_option linter.unusedVariables false
set_option maxRecDepth 100000
set_option maxHeartbeats 25600000
namespace Go.Proofs.YtddpmlcpfmmbeaaGreat
section
open Go.RowKit
section
variable {P:Program}{α:Type}(La:Lay P α)(N:Nest La){b0:Nat}{w0 w:World}{L:List (Nat×TypeId×Array Value)}{R:List RowE}{ops:Array Oper}{o:Oper}{a:Act}{Q:Exit→Act→World→Prop}{K:Act→World→Prop}{E:Prop}{A A2 A3:Option Addr}{n c n2 c2 n3 c3:Nat}
theorem step_mks3(HK:Hid (Kn b0 w0 w L R))(hgd:o.guard=none)(x y z:Operand)(ho:o.op=.buildSlice N.tt 3 #[(0,x),(1,y),(2,z)])(hx:a.eval x=.slice A n c)(hy:a.eval y=.slice A2 n2 c2)(hz:a.eval z=.slice A3 n3 c3)
  (h:∀w' g,Hid (Kn b0 w0 w' (L++[(g,La.t,#[.slice A n c,.slice A2 n2 c2,.slice A3 n3 c3])]) R)→Hid (Below w.heap.size w w')→K (a.put o.dst (.slice (some ⟨g,0,none⟩) 3 3)) w'):if Region.wanted o (yielded ops a.tmps)=true then Oper.wp P o a w K Q else E:=by
 rw[if_pos (by simp[Region.wanted,hgd])]
 exact kwp_mks La N HK 3 _ ho [.slice A n c,.slice A2 n2 c2,.slice A3 n3 c3] (by simp[hx,hy,hz]) (by simp[Value.cells]) rfl (by decide) (by decide) h
end
theorem act_any(w0:World)(x:Oh)(r:Rf)(c:Cmd.C)(w:World)(hx0:In w0 x)(hw:Below w0.heap.size w0 w)(hv:c.val.f<18446744073709551616)(hk:4≤c.k∧c.k≤17)(h4:¬c.k=4)(h5:¬c.k=5)(hd:c.k=14→0≤x.v.round):
  Calls Tryz.prog 132 #[.agg (obA x),.agg #[.int .i64 r.c,.int .i64 r.e,.int .i64 r.r],.agg (cmA c)] w (IsOc w0 (Sto.act x.v r c) w):=by
 rcases Sto.act_kinds hk h4 h5 with h|h|h|h|h|h|h|h|h|h|h|h
 ·exact act_6 w0 x r c w hx0 hw hv h
 ·exact act_7 w0 x r c w hx0 hw hv h
 ·exact act_8 w0 x r c w hx0 hw hv h
 ·exact act_9 w0 x r c w hx0 hw hv h
 ·exact act_10 w0 x r c w hx0 hw hv h
 ·exact act_11 w0 x r c w hx0 hw hv h
 ·exact act_12 w0 x r c w hx0 hw hv h
 ·exact act_13 w0 x r c w hx0 hw hv h
 ·exact act_14 w0 x r c w hx0 hw hv h (hd h)
 ·exact act_15 w0 x r c w hx0 hw hv h
 ·exact act_16 w0 x r c w hx0 hw hv h
 ·exact act_17 w0 x r c w hx0 hw hv h
def frO(c:Cmd.C):Oh:=⟨Sto.fresh c,none,0,0,none,0,0,none,0,0⟩
theorem In.fr(w:World)(c:Cmd.C):In w (frO c):=⟨Sl.none w,Sls.none w,Sls.none w,Mt.fit_zero,by show(0:Int)≤_;decide⟩
theorem exec_bfr{w:World}{o:Oper}{a:Act}{c:Cmd.C}(p q r:Operand)(ho:o.op=.build 60 #[(0,p),(1,q),(2,r)])(hp:a.eval p=.string c.name)(hq:a.eval q=.int .i64 c.n)(hr:a.eval r=.int .i64 c.m):
  (execOp a.eval o).run Tryz.prog w=.ok (.value (.agg (obA (frO c)))) w:=by
 have h:(Instr.build 60 #[(0,.string c.name),(1,.int .i64 c.n),(2,.int .i64 c.m)]).run Tryz.prog w=.ok (.agg (obA (frO c))) w:=by
  unfold obA frO Sto.fresh Mt.zero
  go_simp
 unfold execOp
 simp only[ho,Sem.run_bind,Sem.run_pure,Result.andThen_ok,List.map_toArray,List.map_cons,List.map_nil,hp,hq,hr,h]
theorem Obs.one{b:Nat}{w:World}{A:Option Addr}{c:Nat}{y:Oh}(ho:obLay.Own b w (.slice A 1 c) [y])(hi:In w y):Obs w A 1 c [y]:=
 ⟨Sls.own ho ⟨fun x hx=>trivial,by show 1*144≤_;decide⟩,fun x hx=>by rw[List.mem_singleton] at hx;subst hx;exact hi⟩
theorem vs_app(a b:List Oh):vs (a++b)=vs a++vs b:=List.map_append
theorem vs_put(l:List Oh)(p q:Nat)(y:Oh):vs (l.take p++[y]++l.drop q)=(vs l).take p++[y.v]++(vs l).drop q:=by
 rw[vs_app,vs_app]
 unfold vs
 rw[List.map_take,List.map_drop]
 rfl
theorem vs_wo(l:List Oh)(p q:Nat):vs (l.take p++l.drop q)=(vs l).take p++(vs l).drop q:=by
 rw[vs_app]
 unfold vs
 rw[List.map_take,List.map_drop]
def IsDo(y:Sto.Rs)(w:World)(e:Ending)(w':World):Prop:=∃A n c l O k d Rn,e=.returned (.tuple #[.slice A n c,.agg (rpA y.p),.bool y.later,.slice O k d])∧vs l=y.l∧Kn w.heap.size w w' [] Rn∧
 ∀(b:Nat) (W0 W:World) L R,Kn b W0 W L R→(∀y∈Rn,y∈R)→Obs W A n c l∧Sls otLay tF W O k d y.outs
theorem sdo_any(A:Option Addr)(cp n:Nat)(l:List Oh)(r:Rf)(c:Cmd.C)(w:World)(hs:Obs w A n cp l)(hv:c.val.f<18446744073709551616)(ho:c.old.f<18446744073709551616):
  Calls Tryz.prog 88 #[.slice A n cp,.agg #[.int .i64 r.c,.int .i64 r.e,.int .i64 r.r],.agg (cmA c)] w (IsDo (Sto.doo (vs l) r c) w):=by
 unfold IsDo
 have HS:=zH hs
 have HC:=zH (fun W (hW:Below w.heap.size w W)=>scheck_any A cp n l r c W (hs.later hW) hv ho)
 have HJ:=zH ojoin_any
 have HP:=zH (fun W (hW:Below w.heap.size w W)=>oparts_any A cp n l c.name w W hs hW)
 have HK:=kn3 w 35 #[.int .i64 r.c,.int .i64 r.e,.int .i64 r.r] 37 (cmA c) 28 (rpA Sto.rz)
 unfold IsN1 at HC
 unfold IsOParts at HP
 by_cases hchk:Sto.chk (vs l) r c=0
 case neg=>
  rw[Sto.doo_err hchk]
  have hz:(Sto.chk (vs l) r c != 0)=true:=by simpa using hchk
  clear hs hv ho hchk HP
  generalize Sto.chk (vs l) r c=z at *
  go_enter Tryz.func88,Tryz.ntmps88
  go_wp2_with (first|refine wpList_exe (kexec_lr HK 0 _ (by rfl) (by rfl) (by rfl)) (by rfl) ?_|refine wpList_exe (kcm HK 1 _ (by rfl) (by rfl) (by rfl)) (by rfl) ?_)
  refine(HC.out _ HK.out.b).mono ?_;rintro e w1 ⟨rfl,b1⟩
  replace HK:=hkC HK b1;clear b1
  go_wp2_with (first|(refine wpList_mks1 obLay obNest HK rfl _ rfl rfl ?_;intro w2 g7 HK' _;simp only[lcA,lnA] at HK';replace HK:=HK';clear HK'))
  refine(OJoins.one HJ.out HK 3 rfl (HS.out.later HK.out.b)).mono ?_;rintro e w3 ⟨A4,n4,c4,l4,rfl,v4,k4,o4⟩
  replace HK:=zH (HK.out.join k4)
  have HFo:=zH o4.fo
  have HBg:=zH o4.s.big
  have HV4:=zH v4
  clear v4 k4 o4
  simp only[lnA] at HK
  go_wp2_with (first|(refine wpList_srp (q:=Sto.err z) HK 2 rfl _ _ rfl rfl rfl rfl ?_;intro _ HK';simp only[List.set] at HK';replace HK:=HK';clear HK'))
  exact ret_do Tryz.results88 rfl rfl rfl rfl rfl (HK.out.blk 2 rfl) ⟨A4,n4,c4,l4,_,_,_,_,rfl,HV4.out,HK.out.takeL 0,fun _ _ _ _ _ K hm=>⟨K.obs (hm _ (List.mem_cons_self ..)) (fun y hy=>hm _ (List.mem_cons_of_mem _ hy)) HFo.out HBg.out,Sls.none _⟩⟩
 case pos=>
 obtain⟨hall,hcc,hnew,hown⟩:=Sto.chk_ok hchk
 obtain⟨hR,hok,hk4,hk17⟩:=hall
 have hn8:n≤8:=by have:=hR.len;rw[vs_len,hs.len] at this;exact this
 rw[hchk] at HC
 by_cases h4:c.k=4
 ·rw[Sto.doo_new hchk h4]
  have hk4b:(c.k==4)=true:=by simpa using h4
  have HPut:=zH (vs_put l (Sto.idx (vs l) c.name) (Sto.fin (vs l) c.name) (frO c))
  have HLn:=zH (Sto.fin_le (vs l) c.name)
  have hlen:(vs l).length=n:=by rw[vs_len];exact hs.len
  unfold Sto.put
  simp only
  clear hs hv ho hchk hcc hnew hown hR hok hk4 hk17 h4
  generalize Sto.idx (vs l) c.name=p at *
  generalize Sto.fin (vs l) c.name=q at *
  go_enter Tryz.func88,Tryz.ntmps88
  go_wp2_with (first|refine wpList_exe (kexec_lr HK 0 _ (by rfl) (by rfl) (by rfl)) (by rfl) ?_|refine wpList_exe (kcm HK 1 _ (by rfl) (by rfl) (by rfl)) (by rfl) ?_)
  refine(HC.out _ HK.out.b).mono ?_;rintro e w1 ⟨rfl,b1⟩
  replace HK:=hkC HK b1;clear b1
  go_wp2_with (first|refine wpList_exe (kcm_n HK 1 _ (by rfl) (by rfl) (by rfl)) (by rfl) ?_)
  refine(HP.out _ HK.out.b).mono ?_;rintro e w1 ⟨A1,n1,c1,A2,n2,c2,A3,n3,c3,rfl,s1,s2,s3,b1⟩
  replace HK:=hkC HK b1;clear b1
  have hl1:n1≤8:=by have:=s1.len;rw[List.length_take,HS.out.len] at this;omega
  have hl3:n3≤8:=by have:=s3.len;rw[List.length_drop,HS.out.len] at this;omega
  have HS1:=zH s1
  have HS3:=zH s3
  clear s1 s2 s3 HP
  go_wp2_with (first|refine wpList_exe (kcm_k HK 1 _ (by rfl) (by rfl) (by rfl)) (by rfl) ?_|refine wpList_exe (kcm_n HK 1 _ (by rfl) (by rfl) (by rfl)) (by rfl) ?_|refine wpList_exe (kcm_N HK 1 _ (by rfl) (by rfl) (by rfl)) (by rfl) ?_|refine wpList_exe (kcm_M HK 1 _ (by rfl) (by rfl) (by rfl)) (by rfl) ?_|refine wpList_exe (exec_bfr (c:=c) _ _ _ (by rfl) (by rfl) (by rfl) (by rfl)) (by rfl) ?_|(refine wpList_aob HK rfl rfl ?_;intro _ g5 HK';simp only[lcA,lnA] at HK';replace HK:=HK';clear HK')|(refine wpList_sob HK 3 rfl _ _ rfl rfl rfl rfl ?_;intro _ HK';simp only[List.set] at HK';replace HK:=HK';clear HK')|refine wpList_exe (kob HK 3 _ (by rfl) (by rfl) (by rfl)) (by rfl) ?_|(refine wpList_mk1 obLay (p:=frO c) HK (by decide) rfl _ rfl rfl rfl ?_;intro _ g9 HK';simp only[lcA,lnA] at HK';replace HK:=HK';clear HK')|(refine wpList_mks3 obLay obNest HK rfl _ _ _ rfl rfl rfl rfl ?_;intro w2 g7 HK' _;simp only[lcA,lnA] at HK';replace HK:=HK';clear HK'))
  refine(OJoins.three HJ.out HK 4 rfl (HS1.out.later HK.out.b) (Obs.one (HK.out.own 0 rfl) (In.fr _ c)) (HS3.out.later HK.out.b) (by omega)).mono ?_;rintro e w3 ⟨A4,n4,c4,l4,rfl,v4,k4,o4⟩
  replace HK:=zH (HK.out.join k4)
  have HFo:=zH o4.fo
  have HBg:=zH o4.s.big
  have HV4:=zH (v4.trans HPut.out)
  clear v4 k4 o4
  simp only[lcA,lnA] at HK
  go_wp2_with (first|(refine wpList_srp (q:=Sto.rz) HK 2 rfl _ _ rfl rfl rfl rfl ?_;intro _ HK';simp only[List.set] at HK';replace HK:=HK';clear HK'))
  exact ret_do Tryz.results88 rfl rfl rfl rfl rfl (HK.out.blk 2 rfl) ⟨A4,n4,c4,l4,_,_,_,_,rfl,HV4.out,HK.out.takeL 0,fun _ _ _ _ _ K hm=>⟨K.obs (hm _ (List.mem_cons_of_mem _ (List.mem_cons_self ..))) (fun y hy=>hm _ (List.mem_cons_of_mem _ (List.mem_cons_of_mem _ hy))) HFo.out HBg.out,Sls.none _⟩⟩
 by_cases h5:c.k=5
 ·rw[Sto.doo_cut hchk h5]
  have hk4b:(c.k==4)=false:=by simpa using h4
  have hk5b:(c.k==5)=true:=by simpa using h5
  have HPut:=zH (vs_wo l (Sto.idx (vs l) c.name) (Sto.fin (vs l) c.name))
  have HLn:=zH (Sto.fin_le (vs l) c.name)
  have HWo:=zH (Sto.wo_parts hR.up c.name).1
  simp only
  clear hs hv ho hchk hcc hnew hown hR hok hk4 hk17 h4 h5
  generalize Sto.idx (vs l) c.name=p at *
  generalize Sto.fin (vs l) c.name=q at *
  go_enter Tryz.func88,Tryz.ntmps88
  go_wp2_with (first|refine wpList_exe (kexec_lr HK 0 _ (by rfl) (by rfl) (by rfl)) (by rfl) ?_|refine wpList_exe (kcm HK 1 _ (by rfl) (by rfl) (by rfl)) (by rfl) ?_)
  refine(HC.out _ HK.out.b).mono ?_;rintro e w1 ⟨rfl,b1⟩
  replace HK:=hkC HK b1;clear b1
  go_wp2_with (first|refine wpList_exe (kcm_n HK 1 _ (by rfl) (by rfl) (by rfl)) (by rfl) ?_)
  refine(HP.out _ HK.out.b).mono ?_;rintro e w1 ⟨A1,n1,c1,A2,n2,c2,A3,n3,c3,rfl,s1,s2,s3,b1⟩
  replace HK:=hkC HK b1;clear b1
  have hl1:n1≤8:=by have:=s1.len;rw[List.length_take,HS.out.len] at this;omega
  have hl3:n3≤8:=by have:=s3.len;rw[List.length_drop,HS.out.len] at this;omega
  have HS1:=zH s1
  have HS3:=zH s3
  clear s1 s2 s3 HP
  go_wp2_with (first|refine wpList_exe (kcm_k HK 1 _ (by rfl) (by rfl) (by rfl)) (by rfl) ?_|(refine wpList_mks2 obLay obNest HK rfl _ _ rfl rfl rfl ?_;intro w2 g7 HK' _;simp only[lcA,lnA] at HK';replace HK:=HK';clear HK'))
  refine(OJoins.two HJ.out HK 3 rfl (HS1.out.later HK.out.b) (HS3.out.later HK.out.b) (by omega)).mono ?_;rintro e w3 ⟨A4,n4,c4,l4,rfl,v4,k4,o4⟩
  replace HK:=zH (HK.out.join k4)
  have HFo:=zH o4.fo
  have HBg:=zH o4.s.big
  have HV4:=zH ((v4.trans HPut.out).trans HWo.out)
  clear v4 k4 o4
  simp only[lcA,lnA] at HK
  go_wp2_with (first|(refine wpList_srp (q:=Sto.rz) HK 2 rfl _ _ rfl rfl rfl rfl ?_;intro _ HK';simp only[List.set] at HK';replace HK:=HK';clear HK'))
  exact ret_do Tryz.results88 rfl rfl rfl rfl rfl (HK.out.blk 2 rfl) ⟨A4,n4,c4,l4,_,_,_,_,rfl,HV4.out,HK.out.takeL 0,fun _ _ _ _ _ K hm=>⟨K.obs (hm _ (List.mem_cons_self ..)) (fun y hy=>hm _ (List.mem_cons_of_mem _ hy)) HFo.out HBg.out,Sls.none _⟩⟩
 obtain⟨o,hfo,hfits,_⟩:=hown h4
 rw[Sto.doo_act hchk h4 h5 hfo]
 have hk4b:(c.k==4)=false:=by simpa using h4
 have hk5b:(c.k==5)=false:=by simpa using h5
 have HPut:=zH (fun y=>vs_put l (Sto.idx (vs l) c.name) (Sto.fin (vs l) c.name) y)
 have HLn:=zH (Sto.fin_le (vs l) c.name)
 have hget:=Sto.own_is hR.up c.name
 rw[hfo,← vs_sub] at hget
 have hrd:c.k=14→0≤o.round:=fun h14=>Sto.round_ok (hR.ok o (Sto.fnd_is hfo).1) (by rw[← h14];exact hfits)
 have HAct:Hid (∀(x:Oh),x.v=o→In w x→∀W,Below w.heap.size w W→Calls Tryz.prog 132 #[.agg (obA x),.agg #[.int .i64 r.c,.int .i64 r.e,.int .i64 r.r],.agg (cmA c)] W (IsOc w (Sto.act o r c) W)):=zH fun x hxo hx W hW=>by
  have h:=act_any w x r c W hx hW hv ⟨hk4,hk17⟩ h4 h5 (fun h14=>by rw[hxo];exact hrd h14)
  rw[hxo] at h
  exact h
 unfold Sto.put
 simp only
 clear hs hv ho hchk hcc hnew hown hR hok hk4 hk17 h4 h5 hfo hfits hrd
 unfold IsOc at HAct
 have HGet:=zH hget
 clear hget
 generalize Sto.idx (vs l) c.name=p at *
 generalize Sto.fin (vs l) c.name=q at *
 generalize Sto.act o r c=Y at *
 obtain⟨yo,yp,yt,ys⟩:=Y
 simp only at HAct
 go_enter Tryz.func88,Tryz.ntmps88
 go_wp2_with (first|refine wpList_exe (kexec_lr HK 0 _ (by rfl) (by rfl) (by rfl)) (by rfl) ?_|refine wpList_exe (kcm HK 1 _ (by rfl) (by rfl) (by rfl)) (by rfl) ?_)
 refine(HC.out _ HK.out.b).mono ?_;rintro e w1 ⟨rfl,b1⟩
 replace HK:=hkC HK b1;clear b1
 go_wp2_with (first|refine wpList_exe (kcm_n HK 1 _ (by rfl) (by rfl) (by rfl)) (by rfl) ?_)
 refine(HP.out _ HK.out.b).mono ?_;rintro e w1 ⟨A1,n1,c1,A2,n2,c2,A3,n3,c3,rfl,s1,s2,s3,b1⟩
 replace HK:=hkC HK b1;clear b1
 have hl1:n1≤8:=by have:=s1.len;rw[List.length_take,HS.out.len] at this;omega
 have hl3:n3≤8:=by have:=s3.len;rw[List.length_drop,HS.out.len] at this;omega
 have HS1:=zH s1
 have HS3:=zH s3
 have hpos:0<n2:=by
  rcases Nat.eq_zero_or_pos n2 with h0|h0
  ·subst h0
   have:=HGet.out
   rw[List.length_eq_zero_iff.1 s2.len] at this
   cases this
  ·exact h0
 obtain⟨x,hx,hin⟩:=s2.get hpos
 have hxo:x.v=o:=by
  have:=HGet.out
  rw[hx] at this
  injection this
 obtain⟨b,of,rfl,hat⟩:=s2.s.at hpos
 have HX:Hid (∀W,Below w.heap.size w W→∀j v,(obL x)[j]?=some v→W.cell? ⟨b,of+j,none⟩=some v):=zH fun W hW j v hv=>by
  have h:=hat W hW 0 x hx j v hv
  rwa [Nat.zero_mul,Nat.add_zero] at h
 have HA:=zH (HAct.out x hxo hin)
 clear s1 s2 s3 HP HAct HGet hx hin hxo hat HC
 have hi0:(0:Int)<(n2:Int):=by omega
 go_upto_region 11 with (first|refine wpList_exe (kcm_k HK 1 _ (by rfl) (by rfl) (by rfl)) (by rfl) ?_)
 replace HK:=zH HK.out.drew
 refine wp_region_held_drew (S:=(fun W=>Hid (Kn w.heap.size w W [(w.heap.size,35,#[.int .i64 r.c,.int .i64 r.e,.int .i64 r.r]),(w.heap.size+1,37,cmA c)] []))) (by kernel_rfl) ?_ (fun hHeld=>?_)
 ·(try dsimp only);exact zH (HK.out.takeL 2)
 refine wpAnyH_take (i:=0) (oi:=⟨some 60,_,_,_,_,_⟩) (v:=?_) rfl (by kernel_rfl) (by kernel_rfl) (by kernel_rfl) (fun _ _ _ h=>h) (Or.inl ⟨by rfl,?_⟩) (by assumption) ?_
 rotate_left
 ·(intro w hSw;(try dsimp only at hSw);go_simp;try with_reducible rfl)
 try simp only[Act.put,List.setIfInBounds_toArray,List.set_cons_zero,List.set_cons_succ]
 refine wpAnyH_take (i:=1) (oi:=⟨some 61,_,_,_,_,_⟩) (v:=?_) rfl (by kernel_rfl) (by kernel_rfl) (by kernel_rfl) (fun _ _ _ h=>h) (Or.inl ⟨by rfl,?_⟩) (by assumption) ?_
 rotate_left
 ·(intro w hSw;(try dsimp only at hSw);go_simp;try with_reducible rfl)
 try simp only[Act.put,List.setIfInBounds_toArray,List.set_cons_zero,List.set_cons_succ]
 refine wpAnyH_take (i:=2) (oi:=⟨some 62,_,_,_,_,_⟩) (v:=?_) rfl (by kernel_rfl) (by kernel_rfl) (by kernel_rfl) (fun _ _ _ h=>h) (Or.inl ⟨by rfl,?_⟩) (by assumption) ?_
 rotate_left
 ·(intro w hSw;refine Eq.trans (exec_obx (off:=of) _ (by rfl) (by rfl) (HX.out _ hSw.out.b)) ?_;with_reducible rfl)
 try simp only[Act.put,List.setIfInBounds_toArray,List.set_cons_zero,List.set_cons_succ]
 refine wpAnyH_take (i:=3) (oi:=⟨some 63,_,_,_,_,_⟩) (v:=?_) rfl (by kernel_rfl) (by kernel_rfl) (by kernel_rfl) (fun _ _ _ h=>h) (Or.inl ⟨by rfl,?_⟩) (by assumption) ?_
 rotate_left
 ·(intro w hSw;refine Eq.trans (kexec_lr hSw 0 _ (by rfl) (by rfl) (by rfl)) ?_;with_reducible rfl)
 try simp only[Act.put,List.setIfInBounds_toArray,List.set_cons_zero,List.set_cons_succ]
 refine wpAnyH_take (i:=4) (oi:=⟨some 64,_,_,_,_,_⟩) (v:=?_) rfl (by kernel_rfl) (by kernel_rfl) (by kernel_rfl) (fun _ _ _ h=>h) (Or.inl ⟨by rfl,?_⟩) (by assumption) ?_
 rotate_left
 ·(intro w hSw;refine Eq.trans (kcm hSw 1 _ (by rfl) (by rfl) (by rfl)) ?_;with_reducible rfl)
 try simp only[Act.put,List.setIfInBounds_toArray,List.set_cons_zero,List.set_cons_succ]
 refine wpAnyH_ready (rs:=[5,6]) (by kernel_rfl) (by simp) ?_
 refine AllReadyH.cons (o:=⟨some 65,_,_,_,_,_⟩) rfl (fun K hK=>?_) (AllReadyH.cons (o:=⟨some 15,_,_,_,_,_⟩) rfl (fun K hK=>?_) AllReadyH.nil)
 go_simp
 go_at_call 132
 refine(HA.out _ HK.out.b).mono ?_;rintro e w5 ⟨y,A5,n5,c5,Rn,rfl,v5,k5,i5⟩;replace HK:=zH (HK.out.join k5);simp only[lnA] at HK;have HIy:=zH i5;have HVy:=zH v5;clear k5 i5 v5;have hs:=zH ((HK.out.takeL 2).takeR 0)
 refine hK.out _ _ hs (fun hHeld=>?_)
 clear hK K
 try simp only[ap1,ap2,ap3,ap4,ap5]
 refine wpAnyH_ready (rs:=[6]) (by kernel_rfl) (by simp) ?_
 refine AllReadyH.cons (o:=⟨some 15,_,_,_,_,_⟩) rfl (fun K hK=>?_) AllReadyH.nil
 refine step_aoc HK (by rfl) (by rfl) ?_;intro _ g6 HK' _;simp only[lcA,lnA] at HK';replace HK:=HK';clear HK';have hs:=zH ((HK.out.takeL 2).takeR 0)
 refine hK.out _ _ hs (fun hHeld=>?_)
 clear hK K
 try simp only[ap1,ap2,ap3,ap4,ap5]
 refine wpAnyH_ready (rs:=[7]) (by kernel_rfl) (by simp) ?_
 refine AllReadyH.cons (o:=⟨none,_,_,_,_,_⟩) rfl (fun K hK=>?_) AllReadyH.nil
 refine step_soc HK 3 (by rfl) _ _ (by rfl) (by rfl) (by rfl) (by rfl) ?_;intro _ HK';simp only[List.set] at HK';replace HK:=HK';clear HK';have hs:=zH ((HK.out.takeL 2).takeR 0)
 refine hK.out _ _ hs (fun hHeld=>?_)
 clear hK K
 try simp only[ap1,ap2,ap3,ap4,ap5]
 refine wpAnyH_done (by kernel_rfl) ?_ _
 rotate_left
 refine step_aoc HK (by rfl) (by rfl) ?_;intro _ g6 HK' _;simp only[lcA,lnA] at HK';replace HK:=HK';clear HK';have hs:=zH ((HK.out.takeL 2).takeR 0)
 refine hK.out _ _ hs (fun hHeld=>?_)
 clear hK K
 try simp only[ap1,ap2,ap3,ap4,ap5]
 refine wpAnyH_ready (rs:=[5]) (by kernel_rfl) (by simp) ?_
 refine AllReadyH.cons (o:=⟨some 65,_,_,_,_,_⟩) rfl (fun K hK=>?_) AllReadyH.nil
 go_simp
 go_at_call 132
 refine(HA.out _ HK.out.b).mono ?_;rintro e w5 ⟨y,A5,n5,c5,Rn,rfl,v5,k5,i5⟩;replace HK:=zH (HK.out.join k5);simp only[lnA] at HK;have HIy:=zH i5;have HVy:=zH v5;clear k5 i5 v5;have hs:=zH ((HK.out.takeL 2).takeR 0)
 refine hK.out _ _ hs (fun hHeld=>?_)
 clear hK K
 try simp only[ap1,ap2,ap3,ap4,ap5]
 refine wpAnyH_ready (rs:=[7]) (by kernel_rfl) (by simp) ?_
 refine AllReadyH.cons (o:=⟨none,_,_,_,_,_⟩) rfl (fun K hK=>?_) AllReadyH.nil
 refine step_soc HK 3 (by rfl) _ _ (by rfl) (by rfl) (by rfl) (by rfl) ?_;intro _ HK';simp only[List.set] at HK';replace HK:=HK';clear HK';have hs:=zH ((HK.out.takeL 2).takeR 0)
 refine hK.out _ _ hs (fun hHeld=>?_)
 clear hK K
 try simp only[ap1,ap2,ap3,ap4,ap5]
 refine wpAnyH_done (by kernel_rfl) ?_ _
 rotate_left
 all_goals
  clear hHeld
  go_upto_region 12 with fail
  replace HK:=zH HK.out.drew
  refine wp_region_held_drew (S:=(fun W=>Hid (Kn w.heap.size w W [(g6,158,ocA y yp yt A5 n5 c5)] []))) (by kernel_rfl) ?_ (fun hHeld=>?_)
  ·(try dsimp only);exact zH (((HK.out.dropL 3).takeL 1).takeR 0)
  refine wpAnyH_take (i:=0) (oi:=⟨some 66,_,_,_,_,_⟩) (v:=?_) rfl (by kernel_rfl) (by kernel_rfl) (by kernel_rfl) (fun _ _ _ h=>h) (Or.inl ⟨by rfl,?_⟩) (by assumption) ?_
  rotate_left
  ·(intro w hSw;(try dsimp only at hSw);go_simp;try with_reducible rfl)
  try simp only[Act.put,List.setIfInBounds_toArray,List.set_cons_zero,List.set_cons_succ]
  refine wpAnyH_take (i:=1) (oi:=⟨some 67,_,_,_,_,_⟩) (v:=?_) rfl (by kernel_rfl) (by kernel_rfl) (by kernel_rfl) (fun _ _ _ h=>h) (Or.inl ⟨by rfl,?_⟩) (by assumption) ?_
  rotate_left
  ·(intro w hSw;(try dsimp only at hSw);go_simp;try with_reducible rfl)
  try simp only[Act.put,List.setIfInBounds_toArray,List.set_cons_zero,List.set_cons_succ]
  refine wpAnyH_take (i:=2) (oi:=⟨some 68,_,_,_,_,_⟩) (v:=?_) rfl (by kernel_rfl) (by kernel_rfl) (by kernel_rfl) (fun _ _ _ h=>h) (Or.inl ⟨by rfl,?_⟩) (by assumption) ?_
  rotate_left
  ·(intro w hSw;refine Eq.trans (koc_o hSw 0 _ (by rfl) (by rfl) (by rfl)) ?_;with_reducible rfl)
  try simp only[Act.put,List.setIfInBounds_toArray,List.set_cons_zero,List.set_cons_succ]
  refine wpAnyH_take (i:=4) (oi:=⟨some 70,_,_,_,_,_⟩) (v:=?_) rfl (by kernel_rfl) (by kernel_rfl) (by kernel_rfl) (fun _ _ _ h=>h) (Or.inl ⟨by rfl,?_⟩) (by assumption) ?_
  rotate_left
  ·(intro w hSw;(try dsimp only at hSw);go_simp;try with_reducible rfl)
  try simp only[Act.put,List.setIfInBounds_toArray,List.set_cons_zero,List.set_cons_succ]
  refine wpAnyH_take (i:=7) (oi:=⟨some 73,_,_,_,_,_⟩) (v:=?_) rfl (by kernel_rfl) (by kernel_rfl) (by kernel_rfl) (fun _ _ _ h=>h) (Or.inl ⟨by rfl,?_⟩) (by assumption) ?_
  rotate_left
  ·(intro w hSw;(try dsimp only at hSw);go_simp;try with_reducible rfl)
  try simp only[Act.put,List.setIfInBounds_toArray,List.set_cons_zero,List.set_cons_succ]
  refine wpAnyH_take (i:=8) (oi:=⟨some 74,_,_,_,_,_⟩) (v:=?_) rfl (by kernel_rfl) (by kernel_rfl) (by kernel_rfl) (fun _ _ _ h=>h) (Or.inl ⟨by rfl,?_⟩) (by assumption) ?_
  rotate_left
  ·(intro w hSw;refine Eq.trans (koc_p hSw 0 _ (by rfl) (by rfl) (by rfl)) ?_;with_reducible rfl)
  try simp only[Act.put,List.setIfInBounds_toArray,List.set_cons_zero,List.set_cons_succ]
  refine wpAnyH_take (i:=9) (oi:=⟨some 75,_,_,_,_,_⟩) (v:=?_) rfl (by kernel_rfl) (by kernel_rfl) (by kernel_rfl) (fun _ _ _ h=>h) (Or.inl ⟨by rfl,?_⟩) (by assumption) ?_
  rotate_left
  ·(intro w hSw;(try dsimp only at hSw);go_simp;try with_reducible rfl)
  try simp only[Act.put,List.setIfInBounds_toArray,List.set_cons_zero,List.set_cons_succ]
  refine wpAnyH_take (i:=10) (oi:=⟨some 76,_,_,_,_,_⟩) (v:=?_) rfl (by kernel_rfl) (by kernel_rfl) (by kernel_rfl) (fun _ _ _ h=>h) (Or.inl ⟨by rfl,?_⟩) (by assumption) ?_
  rotate_left
  ·(intro w hSw;refine Eq.trans (koc_t hSw 0 _ (by rfl) (by rfl) (by rfl)) ?_;with_reducible rfl)
  try simp only[Act.put,List.setIfInBounds_toArray,List.set_cons_zero,List.set_cons_succ]
  refine wpAnyH_take (i:=11) (oi:=⟨some 77,_,_,_,_,_⟩) (v:=?_) rfl (by kernel_rfl) (by kernel_rfl) (by kernel_rfl) (fun _ _ _ h=>h) (Or.inl ⟨by rfl,?_⟩) (by assumption) ?_
  rotate_left
  ·(intro w hSw;(try dsimp only at hSw);go_simp;try with_reducible rfl)
  try simp only[Act.put,List.setIfInBounds_toArray,List.set_cons_zero,List.set_cons_succ]
  refine wpAnyH_take (i:=12) (oi:=⟨some 78,_,_,_,_,_⟩) (v:=?_) rfl (by kernel_rfl) (by kernel_rfl) (by kernel_rfl) (fun _ _ _ h=>h) (Or.inl ⟨by rfl,?_⟩) (by assumption) ?_
  rotate_left
  ·(intro w hSw;refine Eq.trans (koc_s hSw 0 _ (by rfl) (by rfl) (by rfl)) ?_;with_reducible rfl)
  try simp only[Act.put,List.setIfInBounds_toArray,List.set_cons_zero,List.set_cons_succ]
  refine wpAnyH_ready (rs:=[3]) (by kernel_rfl) (by simp) ?_
  refine AllReadyH.cons (o:=⟨some 69,_,_,_,_,_⟩) rfl (fun K hK=>?_) AllReadyH.nil
  refine step_mk1 obLay (p:=y) HK (by decide) (by rfl) _ (by rfl) (by rfl) (by rfl) ?_;intro _ g9 HK' _;replace HK:=HK';clear HK';have HMk:=zH (Obs.one (Kn.lastOwn HK.out) ((HIy.out _ _ _ _ _ HK.out (fun z hz=>List.mem_append_left _ hz)).1 HK.out.b));have hs:=zH (((HK.out.dropL 3).takeL 1).takeR 0)
  refine hK.out _ _ hs (fun hHeld=>?_)
  clear hK K
  try simp only[ap1,ap2,ap3,ap4,ap5]
  refine wpAnyH_ready (rs:=[5]) (by kernel_rfl) (by simp) ?_
  refine AllReadyH.cons (o:=⟨some 71,_,_,_,_,_⟩) rfl (fun K hK=>?_) AllReadyH.nil
  refine step_mks3 obLay obNest HK (by rfl) _ _ _ (by rfl) (by rfl) (by rfl) (by rfl) ?_;intro w7 g7 HK' b7;simp only[lcA,lnA] at HK';replace HK:=HK';clear HK';replace HMk:=zH (HMk.out.later b7.out);clear b7;have hs:=zH (((HK.out.dropL 3).takeL 1).takeR 0)
  refine hK.out _ _ hs (fun hHeld=>?_)
  clear hK K
  try simp only[ap1,ap2,ap3,ap4,ap5]
  refine wpAnyH_ready (rs:=[6]) (by kernel_rfl) (by simp) ?_
  refine AllReadyH.cons (o:=⟨some 72,_,_,_,_,_⟩) rfl (fun K hK=>?_) AllReadyH.nil
  go_simp
  go_at_call 124
  refine(OJoins.three HJ.out HK 4 rfl (HS1.out.later HK.out.b) HMk.out (HS3.out.later HK.out.b) (by omega)).mono ?_;rintro e w3 ⟨A4,n4,c4,l4,rfl,v4,k4,o4⟩;replace HK:=zH (HK.out.join k4);have HFo:=zH o4.fo;have HBg:=zH o4.s.big;have HV4:=zH (v4.trans (HPut.out y));clear v4 k4 o4;have hs:=zH (((HK.out.dropL 3).takeL 1).takeR 0)
  refine hK.out _ _ hs (fun hHeld=>?_)
  clear hK K
  try simp only[ap1,ap2,ap3,ap4,ap5]
  refine wpAnyH_take (i:=13) (oi:=⟨some 6,_,_,_,_,_⟩) (v:=?_) rfl (by kernel_rfl) (by kernel_rfl) (by kernel_rfl) (fun _ _ _ h=>h) (Or.inl ⟨by rfl,?_⟩) (by assumption) ?_
  rotate_left
  ·(intro w hSw;(try dsimp only at hSw);go_simp;try with_reducible rfl)
  try simp only[Act.put,List.setIfInBounds_toArray,List.set_cons_zero,List.set_cons_succ]
  refine wpAnyH_ready (rs:=[14]) (by kernel_rfl) (by simp) ?_
  refine AllReadyH.cons (o:=⟨none,_,_,_,_,_⟩) rfl (fun K hK=>?_) AllReadyH.nil
  refine step_srp HK 2 (by rfl) _ _ (by rfl) (by rfl) (by rfl) (by rfl) ?_;intro _ HK';simp only[List.set] at HK';replace HK:=HK';clear HK';have hs:=zH (((HK.out.dropL 3).takeL 1).takeR 0)
  refine hK.out _ _ hs (fun hHeld=>?_)
  clear hK K
  try simp only[ap1,ap2,ap3,ap4,ap5]
  refine wpAnyH_take (i:=15) (oi:=⟨some 8,_,_,_,_,_⟩) (v:=?_) rfl (by kernel_rfl) (by kernel_rfl) (by kernel_rfl) (fun _ _ _ h=>h) (Or.inl ⟨by rfl,?_⟩) (by assumption) ?_
  rotate_left
  ·(intro w hSw;(try dsimp only at hSw);go_simp;try with_reducible rfl)
  try simp only[Act.put,List.setIfInBounds_toArray,List.set_cons_zero,List.set_cons_succ]
  refine wpAnyH_take (i:=16) (oi:=⟨some 9,_,_,_,_,_⟩) (v:=?_) rfl (by kernel_rfl) (by kernel_rfl) (by kernel_rfl) (fun _ _ _ h=>h) (Or.inl ⟨by rfl,?_⟩) (by assumption) ?_
  rotate_left
  ·(intro w hSw;(try dsimp only at hSw);go_simp;try with_reducible rfl)
  try simp only[Act.put,List.setIfInBounds_toArray,List.set_cons_zero,List.set_cons_succ]
  refine wpAnyH_done (by kernel_rfl) ?_ _
  all_goals
   go_wp2_with fail
   exact ret_do Tryz.results88 rfl rfl rfl rfl rfl (HK.out.blk 2 rfl) ⟨A4,n4,c4,l4,_,_,_,_,rfl,by rw[HV4.out,HVy.out],HK.out.takeL 0,fun _ _ _ _ _ K hm=>⟨K.obs (hm _ (List.mem_append_right _ (List.mem_cons_self ..))) (fun z hz=>hm _ (List.mem_append_right _ (List.mem_cons_of_mem _ hz))) HFo.out HBg.out,(HIy.out _ _ _ _ _ K (fun z hz=>hm _ (List.mem_append_left _ (List.mem_append_left _ hz)))).2⟩⟩
end
section
open Go.RowKit
section
variable {P:Program}{b0:Nat}{w0 w:World}{L:List (Nat×TypeId×Array Value)}{R:List RowE}{ops:Array Oper}{rest:List Oper}{o:Oper}{a:Act}{Q:Exit→Act→World→Prop}{α:Type}{La:Lay P α}
theorem far_setCells{g k:Nat}(hne:k≠g):∀(vs:List Value) (p:Nat) (w:World),(w.setCells g p vs).heap[k]?=w.heap[k]?
 | [],_,_=>rfl
 | v::r,p,w=>(far_setCells hne r (p+1) (w.setCell ⟨g,p,none⟩ v)).trans (Below.heap_setCell w _ v k hne)
theorem Kn.headR(h:Kn b0 w0 w L R){j n c:Nat}{A:Option Addr}{l:List α}(hR:R[j]?=some (row La (.slice A n c) l))(hl:0<l.length):∃g,A=some ⟨g,0,none⟩:=by
 rcases(h.own j hR).2 with ⟨_,h0⟩|⟨g,cap,cur,h1,_⟩
 ·omega
 ·injection h1 with h1
  exact⟨g,h1⟩
end
end
section
open Go.RowKit
section
variable {P:Program}{b0:Nat}{w0 w:World}{L:List (Nat×TypeId×Array Value)}{R:List RowE}{ops:Array Oper}{rest:List Oper}{o:Oper}{a:Act}{Q:Exit→Act→World→Prop}{α:Type}{La:Lay P α}
theorem Kn.atR(h:Kn b0 w0 w L R){j g n c:Nat}{l:List α}(hR:R[j]?=some (row La (.slice (some ⟨g,0,none⟩) n c) l)){i:Nat}{x:α}(hx:l[i]?=some x)(q:Nat)(v:Value)(hv:(La.f x)[q]?=some v):w.cell? ⟨g,0+i*La.k+q,none⟩=some v:=by
 have hl:=(List.getElem?_eq_some_iff.1 hx).1
 obtain⟨b,o,e,_,hc⟩:=(h.own j hR).rd.1 (by omega)
 injection e with e
 injection e with e1 e2
 subst e1 e2
 exact hc i x hx q v hv
theorem Lay.flat_setF(l:List α)(i:Nat)(x y:α)(hx:l[i]?=some x)(q:Nat)(hq:q<La.k)(v:Value)(hy:La.f y=(La.f x).set q v):La.flat (l.set i y)=(La.flat l).set (i*La.k+q) v:=by
 induction l generalizing i with
 | nil=>simp at hx
 | cons z r ih=>
  have hz:=La.len z
  match i,hx with
  | 0,hx=>
   simp only[List.getElem?_cons_zero,Option.some.injEq] at hx
   subst hx
   rw[List.set_cons_zero,Lay.flat_cons,Lay.flat_cons,Nat.zero_mul,Nat.zero_add,List.set_append_left _ _ (by omega),hy]
  | i+1,hx=>
   rw[List.getElem?_cons_succ] at hx
   have e:(i+1)*La.k+q=La.k+(i*La.k+q):=by rw[Nat.succ_mul];omega
   rw[List.set_cons_succ,Lay.flat_cons,Lay.flat_cons,ih i hx,e,List.set_append_right _ _ (by omega),hz,Nat.add_sub_cancel_left]
theorem Kn.putF(h:Kn b0 w0 w L R){j g n c:Nat}{l:List α}(hR:R[j]?=some (row La (.slice (some ⟨g,0,none⟩) n c) l))(i:Nat)(x y:α)(hx:l[i]?=some x)(q:Nat)(hq:q<La.k)(v:Value)(hy:La.f y=(La.f x).set q v):
  Kn b0 w0 (w.setCell ⟨g,i*La.k+q,none⟩ v) L (R.set j (row La (.slice (some ⟨g,0,none⟩) n c) (l.set i y))):=by
 have hown:=h.own j hR
 have ho:(w.setCell ⟨g,i*La.k+q,none⟩ v).ownsRow b0 La.e La.k (.slice (some ⟨g,0,none⟩) n c) (l.set i y).length (La.flat (l.set i y)):=by
  refine⟨by rw[La.flat_length],?_⟩
  rw[List.length_set]
  rcases hown.2 with ⟨h1,_⟩|⟨g',cap,cur,h1,hb,hg,hnc,hcm,hs,ht⟩
  ·cases h1
  ·injection h1 with e1 e2 e3
   injection e1 with e1
   injection e1 with e1
   subst e1 e3
   refine .inr ⟨g,c,cur.setIfInBounds (i*La.k+q) v,by rw[e2],hb,Blk.set_ (w:=w) (t:=La.e) hg _ _,hnc,hcm,by rw[Array.size_setIfInBounds,hs],?_⟩
   rw[Array.toList_setIfInBounds,List.take_set,ht,Lay.flat_setF l i x y hx q hq v hy]
 obtain⟨b1,b2⟩:=below_cells (Nat.le_refl g) [v] (i*La.k+q) w
 exact h.setR (i:=j) hR ho ⟨b1.os,b1.tape,b1.output,b1.size,fun k hk hne=>far_setCells (fun e=>hne (by rw[e];rfl)) [v] _ _⟩ (.inl rfl)
theorem kwp_putF{K:Act→World→Prop}(HK:Hid (Kn b0 w0 w L R))(j:Nat)(ty:TypeId)(p1 p2:Operand)(ho:o.op=.store ty p1 p2){g n c:Nat}{l:List α}(hR:R[j]?=some (row La (.slice (some ⟨g,0,none⟩) n c) l))(i:Nat)(x y:α)(hx:l[i]?=some x)(q:Nat)(hq:q<La.k)
  (hp:a.eval p1=.pointer (some ⟨g,i*La.k+q,none⟩)) {v:Value} (hv:a.eval p2=v) (hc:v.cells=#[v]) (h1:v.oneCell'=true) (hi:(P.info? ty).map (·.size)=some 1) (hy:La.f y=(La.f x).set q v)
  (h:∀w',Hid (Kn b0 w0 w' L (R.set j (row La (.slice (some ⟨g,0,none⟩) n c) (l.set i y))))→K (a.put o.dst undef) w'):o.wp P a w K Q:=by
 have hown:=HK.out.own j hR
 have hb:∃cur,Blk w g La.e cur∧i*La.k+q<cur.size:=by
  rcases hown.2 with ⟨h1,_⟩|⟨g',cap,cur,h1,hb,hg,hnc,hcm,hs,ht⟩
  ·cases h1
  ·injection h1 with e1 e2 e3
   injection e1 with e1
   injection e1 with e1
   subst e1
   have hil:=(List.getElem?_eq_some_iff.1 hx).1
   have h1:(i+1)*La.k≤l.length*La.k:=Nat.mul_le_mul_right _ hil
   have hsz:l.length*La.k≤cur.size:=by rw[hs];exact Nat.mul_le_mul_right _ hnc
   rw[Nat.succ_mul] at h1
   exact⟨cur,hg,by omega⟩
 obtain⟨cs,hb,hsz⟩:=hb
 have hs:=run_storeCells_cells (P:=P) g (i*La.k+q) [v] 0 w (fun j hj=>by
   have:j=0:=by simpa using hj
   subst this
   rw[hb.cell,Array.getElem?_eq_getElem (by omega)];rfl) (fun j _=>hb.frozen _) (fun u hu=>by simp at hu;subst hu;exact h1)
 simp only[Nat.add_zero] at hs
 have hr:(storeVar ty ⟨g,i*La.k+q,none⟩ v).run P w=.ok () (w.setCell ⟨g,i*La.k+q,none⟩ v):=by
  cases hq:P.info? ty with
  | none=>simp[hq] at hi
  | some z=>
   have hs1:z.size=1:=by simpa [hq] using hi
   simp[storeVar,sizeOf,typeInfo,hq,hc,hs1,hs,World.setCells]
 unfold Oper.wp execOp
 simp only[ho,hp,hv,Instr.storeAt,Instr.sureAddr,Sem.run_bind,Sem.run_pure,Result.andThen_ok,hr]
 exact h _ (zH (HK.out.putF hR i x y hx q hq v hy))
theorem wpList_putF(HK:Hid (Kn b0 w0 w L R))(j:Nat)(hgd:o.guard=none)(ty:TypeId)(p1 p2:Operand)(ho:o.op=.store ty p1 p2){g n c:Nat}{l:List α}(hR:R[j]?=some (row La (.slice (some ⟨g,0,none⟩) n c) l))(i:Nat)(x y:α)(hx:l[i]?=some x)(q:Nat)(hq:q<La.k)
  (hp:a.eval p1=.pointer (some ⟨g,i*La.k+q,none⟩)) {v:Value} (hv:a.eval p2=v) (hc:v.cells=#[v]) (h1:v.oneCell'=true) (hi:(P.info? ty).map (·.size)=some 1) (hy:La.f y=(La.f x).set q v)
  (h:∀w',Hid (Kn b0 w0 w' L (R.set j (row La (.slice (some ⟨g,0,none⟩) n c) (l.set i y))))→wpList P ops Q rest (a.put o.dst undef) w'):wpList P ops Q (o::rest) a w:=
 wpList_plain hgd fun _ hK=>kwp_putF HK j ty p1 p2 ho hR i x y hx q hq hp hv hc h1 hi hy fun w' h2=>hK _ _ (h w' h2)
end
end
section
open Go.RowKit
namespace Sto
def drk(l:List Ob)(r:Rf)(k:Nat):List Ob:=(l.take k).map (fun o=>dr o r)++l.drop k
def osk(l:List Ob)(r:Rf)(k:Nat):List Ot:=(l.take k).flatMap fun o=>drO o r
theorem drk_get{l:List Ob}{r:Rf}{k:Nat}{x:Ob}(h:l[k]?=some x):(drk l r k)[k]?=some x:=by
 have hk:=(List.getElem?_eq_some_iff.1 h).1
 have e:((l.take k).map (fun o=>dr o r)).length=k:=by rw[List.length_map,List.length_take];omega
 unfold drk
 rw[List.getElem?_append_right (by omega),e,Nat.sub_self,List.getElem?_drop]
 exact h
theorem drk_succ{l:List Ob}{r:Rf}{k:Nat}{x:Ob}(h:l[k]?=some x):drk l r (k+1)=(drk l r k).set k (dr x r):=by
 have hk:=(List.getElem?_eq_some_iff.1 h).1
 have hx:=(List.getElem?_eq_some_iff.1 h).2
 have e:((l.take k).map (fun o=>dr o r)).length=k:=by rw[List.length_map,List.length_take];omega
 unfold drk
 rw[Lay.take_succ h,List.map_append,List.set_append_right _ _ (by omega),e,Nat.sub_self,List.drop_eq_getElem_cons hk,List.set_cons_zero,List.append_assoc]
 rfl
theorem drk_same{l:List Ob}{r:Rf}{k:Nat}{x:Ob}(h:l[k]?=some x)(hd:dr x r=x):drk l r (k+1)=drk l r k:=by
 rw[drk_succ h,hd]
 have h2:=drk_get (r:=r) h
 obtain⟨hk,he⟩:=List.getElem?_eq_some_iff.1 h2
 conv=>lhs;rw[← he]
 exact List.set_getElem_self hk
theorem drk_all{l:List Ob}{r:Rf}{k:Nat}(h:l.length≤k):drk l r k=l.map fun o=>dr o r:=by
 unfold drk
 rw[List.take_of_length_le h,List.drop_of_length_le h,List.append_nil]
theorem osk_all{l:List Ob}{r:Rf}{k:Nat}(h:l.length≤k):osk l r k=l.flatMap fun o=>drO o r:=by
 unfold osk
 rw[List.take_of_length_le h]
theorem osk_succ{l:List Ob}{r:Rf}{k:Nat}{x:Ob}(h:l[k]?=some x):osk l r (k+1)=osk l r k++drO x r:=by
 unfold osk
 rw[Lay.take_succ h,List.flatMap_append,List.flatMap_cons,List.flatMap_nil,List.append_nil]
theorem held_len(y:Rf)(h:Bool):(held y h).length≤1:=by
 unfold held
 split<;>simp
theorem drO_len(x:Ob)(r:Rf):(drO x r).length≤1:=by
 unfold drO
 split
 ·exact held_len _ _
 ·simp
theorem osk_len(l:List Ob)(r:Rf):∀k,(osk l r k).length≤k
 | 0=>by simp[osk]
 | k+1=>by
  have ih:=osk_len l r k
  cases h:l[k]? with
  | none=>
   have e:osk l r (k+1)=osk l r k:=by
    have:=List.getElem?_eq_none_iff.1 h
    rw[osk_all this,osk_all (by omega)]
   rw[e];omega
  | some x=>
   rw[osk_succ h,List.length_append]
   have:=drO_len x r
   omega
end Sto
def IsDp(G:World→Prop)(y:List Sto.Ob)(os:List Sto.Ot)(w:World)(e:Ending)(w':World):Prop:=∃(A:Option Addr) (n c:Nat) (l:List Oh) (O:Option Addr) (k d:Nat) (Rn:List RowE),e=.returned (.tuple #[.slice A n c,.slice O k d])∧Hid (vs l=y)∧Kn w.heap.size w w' [] Rn∧
 Hid (∀(b:Nat) (W0 W:World) L R,Kn b W0 W L R→(∀z∈Rn,z∈R)→G W→Obs W A n c l∧Sls otLay tF W O k d os)
section
variable {b0:Nat}{w0 w:World}{L:List (Nat×TypeId×Array Value)}{R:List RowE}
theorem Kn.rot{a b:RowE}{T:List RowE}(h:Kn b0 w0 w L ((a::T)++[b])):Kn b0 w0 w L (a::b::T):=by
 refine h.pick (fun i=>i) (fun i=>if i=0 then 0 else if i=1 then T.length+1 else i-1) (fun i j _ _ hij=>hij) (fun i j hi hj hij=>?_) (fun i x hx=>hx) (fun i x hx=>?_)
 ·simp only[List.length_cons] at hi hj
  show(if i=0 then 0 else if i=1 then T.length+1 else i-1)≠(if j=0 then 0 else if j=1 then T.length+1 else j-1)
  split<;>split<;>(try split)<;>(try split)<;>omega
 ·match i,hx with
  | 0,hx=>simpa using hx
  | 1,hx=>
   show((a::T)++[b])[T.length+1]?=some x
   rw[List.getElem?_append_right (by simp)]
   simpa using hx
  | i+2,hx=>
   have hl:=(List.getElem?_eq_some_iff.1 hx).1
   simp only[List.length_cons] at hl
   show((a::T)++[b])[i+1]?=some x
   rw[List.getElem?_append_left (by simp;omega)]
   simpa using hx
theorem Kn.atR0{P:Program}{α:Type}{La:Lay P α}(h:Kn b0 w0 w L R){j g n c:Nat}{l:List α}(hR:R[j]?=some (row La (.slice (some ⟨g,0,none⟩) n c) l)){i:Nat}{x:α}(hx:l[i]?=some x)(q:Nat)(v:Value)(hv:(La.f x)[q]?=some v):w.cell? ⟨g,i*La.k+q,none⟩=some v:=by
 have h1:=h.atR hR hx q v hv
 rwa [Nat.zero_add] at h1
theorem Kn.cutR{a b m:RowE}{T:List RowE}(h:Kn b0 w0 w L (a::b::(T++[m]))):Kn b0 w0 w L (a::b::T):=by
 have h1:=h.takeR (T.length+2)
 have e:(a::b::(T++[m])).take (T.length+2)=a::b::T:=by
  rw[List.take_succ_cons,List.take_succ_cons,List.take_left']
  rfl
 rwa [e] at h1
end
end
end Go.Proofs.YtddpmlcpfmmbeaaGreat
