/- What act returns: what an object does at a command that fits it. No condition but those named. -/
import Derived.Test.YtddpmlcpfmmbeaaGreatTk
import Derived.Test.YtddpmlcpfmmbeaaGreatKAU
import Derived.Test.YtddpmlcpfmmbeaaGreatKAW
import Derived.Test.YtddpmlcpfmmbeaaGreatKAX
import Derived.Test.YtddpmlcpfmmbeaaGreatKAZ
import Derived.Test.YtddpmlcpfmmbeaaGreatKBA
set_option linter.unusedSimpArgs false
set_option linter.unusedVariables false
set_option maxRecDepth 100000
set_option maxHeartbeats 25600000
namespace Go.Proofs.YtddpmlcpfmmbeaaGreat
section
open Go.RowKit
theorem act_6(w0:World)(x:Oh)(r:Rf)(c:Cmd.C)(w:World)(hx0:In w0 x)(hw:Below w0.heap.size w0 w)(hv:c.val.f<18446744073709551616)(hk:c.k=6):Calls Tryz.prog 132 #[.agg (obA x),.agg #[.int .i64 r.c,.int .i64 r.e,.int .i64 r.r],.agg (cmA c)] w (IsOc w0 (Sto.act x.v r c) w):=by
 have he:Sto.act x.v r c=⟨x.v,⟨Dct.gtE x.v.prs c.key,Dct.gtV x.v.prs c.key⟩,false,[]⟩:=by
  unfold Sto.act
  simp[hk]
 rw[he]
 clear he
 have hx:=hx0.later hw
 have HI:=zH hx0
 have HT:=zH (fun W (hW:Below w.heap.size w W)=>get_any x.pA x.pc x.pn x.v.prs c.key W (hx.p.later hW))
 have HK:=kn4 w 60 (obA x) 35 #[.int .i64 r.c,.int .i64 r.e,.int .i64 r.r] 37 (cmA c) 158 (ocA ohZ Sto.rz false none 0 0)
 clear hx hx0 hw hv
 unfold IsOc
 unfold IsVE vv at HT
 simp only
 generalize Dct.gtV x.v.prs c.key=v at *
 generalize Dct.gtE x.v.prs c.key=z at *
 go_enter Tryz.func132,Tryz.ntmps132
 go_wp2_with (first|refine wpList_exe (kcm_k HK 2 _ (by rfl) (by rfl) (by rfl)) (by rfl) ?_|(refine wpList_arp HK rfl rfl ?_;intro _ g7 HK';simp only[lcA,lnA] at HK';replace HK:=HK';clear HK')|(refine wpList_srp (q:=Sto.rz) HK 4 rfl _ _ rfl rfl rfl rfl ?_;intro _ HK';simp only[List.set] at HK';replace HK:=HK';clear HK')|refine wpList_exe (kob_p HK 0 _ (by rfl) (by rfl) (by rfl)) (by rfl) ?_|refine wpList_exe (kcm_y HK 2 _ (by rfl) (by rfl) (by rfl)) (by rfl) ?_)
 refine(HT.out _ HK.out.b).mono ?_;rintro e w1 ⟨rfl,b1⟩
 replace HK:=hkC HK b1;clear b1
 go_wp2_with (first|(refine wpList_srv (z:=v) HK 4 rfl _ _ rfl rfl rfl rfl ?_;intro _ HK';simp only[List.set] at HK';replace HK:=HK';clear HK')|(refine wpList_sre HK 4 rfl _ _ rfl rfl rfl rfl ?_;intro _ HK';simp only[List.set] at HK';replace HK:=HK';clear HK')|refine wpList_exe (kob HK 0 _ (by rfl) (by rfl) (by rfl)) (by rfl) ?_|refine wpList_exe (krp HK 4 _ (by rfl) (by rfl) (by rfl)) (by rfl) ?_|refine wpList_exe (exec_b2 (p:=⟨z,v⟩) _ _ (by rfl) (by rfl) (by rfl)) (by rfl) ?_|(refine wpList_soc HK 3 rfl _ _ rfl rfl rfl rfl ?_;intro _ HK';simp only[List.set] at HK';replace HK:=HK';clear HK'))
 exact ret_oc Tryz.results132 rfl rfl (HK.out.blk 3 rfl) ⟨_,_,_,_,_,rfl,rfl,HK.out.takeL 0,fun _ _ _ _ _ K hm=>⟨fun hb=>HI.out.later hb,Sls.none _⟩⟩
theorem act_7(w0:World)(x:Oh)(r:Rf)(c:Cmd.C)(w:World)(hx0:In w0 x)(hw:Below w0.heap.size w0 w)(hv:c.val.f<18446744073709551616)(hk:c.k=7):Calls Tryz.prog 132 #[.agg (obA x),.agg #[.int .i64 r.c,.int .i64 r.e,.int .i64 r.r],.agg (cmA c)] w (IsOc w0 (Sto.act x.v r c) w):=by
 have he:Sto.act x.v r c=⟨{ x.v with prs:=Dct.ptL x.v.prs c.key c.val },Sto.err (Dct.ptE x.v.prs c.key c.val),false,[]⟩:=by
  unfold Sto.act
  simp[hk]
 rw[he]
 clear he
 have hx:=hx0.later hw
 have HI:=zH hx0
 have HT:=zH (fun W (hW:Below w.heap.size w W)=>put_any x.pA x.pc x.pn x.v.prs c.key c.val W (hx.p.later hW) hv)
 have HF:=zH (hx.p.fit.pt (k:=c.key) hv)
 have HK:=kn4 w 60 (obA x) 35 #[.int .i64 r.c,.int .i64 r.e,.int .i64 r.r] 37 (cmA c) 158 (ocA ohZ Sto.rz false none 0 0)
 clear hx hx0 hw hv
 unfold IsOc
 unfold IsPE vv at HT
 simp only
 generalize Dct.ptL x.v.prs c.key c.val=m at *
 generalize Dct.ptE x.v.prs c.key c.val=z at *
 go_enter Tryz.func132,Tryz.ntmps132
 go_wp2_with (first|refine wpList_exe (kcm_k HK 2 _ (by rfl) (by rfl) (by rfl)) (by rfl) ?_|(refine wpList_arp HK rfl rfl ?_;intro _ g7 HK';simp only[lcA,lnA] at HK';replace HK:=HK';clear HK')|(refine wpList_srp (q:=Sto.rz) HK 4 rfl _ _ rfl rfl rfl rfl ?_;intro _ HK';simp only[List.set] at HK';replace HK:=HK';clear HK')|refine wpList_exe (kob_p HK 0 _ (by rfl) (by rfl) (by rfl)) (by rfl) ?_|refine wpList_exe (kcm_y HK 2 _ (by rfl) (by rfl) (by rfl)) (by rfl) ?_|refine wpList_exe (kcm_v HK 2 _ (by rfl) (by rfl) (by rfl)) (by rfl) ?_)
 refine(HT.out _ HK.out.b).mono ?_;rintro e w1 ⟨A4,n4,c4,rfl,o4,b4⟩
 replace HK:=zH (HK.out.called b4 o4)
 simp only[lnA] at HK
 clear o4 b4
 go_wp2_with (first|(refine wpList_sop HK 0 rfl _ _ rfl rfl rfl rfl m ?_;intro _ HK';simp only[List.set] at HK';replace HK:=HK';clear HK')|(refine wpList_sre HK 4 rfl _ _ rfl rfl rfl rfl ?_;intro _ HK';simp only[List.set] at HK';replace HK:=HK';clear HK')|refine wpList_exe (kob HK 0 _ (by rfl) (by rfl) (by rfl)) (by rfl) ?_|refine wpList_exe (krp HK 4 _ (by rfl) (by rfl) (by rfl)) (by rfl) ?_|refine wpList_exe (exec_b2 (p:=Sto.err z) _ _ (by rfl) (by rfl) (by rfl)) (by rfl) ?_|(refine wpList_soc HK 3 rfl _ _ rfl rfl rfl rfl ?_;intro _ HK';simp only[List.set] at HK';replace HK:=HK';clear HK'))
 exact ret_oc Tryz.results132 rfl rfl (HK.out.blk 3 rfl) ⟨_,_,_,_,_,rfl,rfl,HK.out.takeL 0,fun _ _ _ _ _ K hm=>⟨fun hb=>(HI.out.later hb).sp (Sl.own (K.mem (hm _ (List.mem_cons_self ..))) HF.out),Sls.none _⟩⟩
theorem act_8(w0:World)(x:Oh)(r:Rf)(c:Cmd.C)(w:World)(hx0:In w0 x)(hw:Below w0.heap.size w0 w)(hv:c.val.f<18446744073709551616)(hk:c.k=8):Calls Tryz.prog 132 #[.agg (obA x),.agg #[.int .i64 r.c,.int .i64 r.e,.int .i64 r.r],.agg (cmA c)] w (IsOc w0 (Sto.act x.v r c) w):=by
 have he:Sto.act x.v r c=⟨{ x.v with prs:=Dct.ctL x.v.prs c.key },⟨Dct.gtE x.v.prs c.key,Dct.gtV x.v.prs c.key⟩,false,[]⟩:=by
  unfold Sto.act
  simp[hk]
 rw[he]
 clear he
 have hx:=hx0.later hw
 have HI:=zH hx0
 have HT:=zH (fun W (hW:Below w.heap.size w W)=>cut_any x.pA x.pc x.pn x.v.prs c.key W (hx.p.later hW))
 have HF:=zH (hx.p.fit.ct c.key)
 have HK:=kn4 w 60 (obA x) 35 #[.int .i64 r.c,.int .i64 r.e,.int .i64 r.r] 37 (cmA c) 158 (ocA ohZ Sto.rz false none 0 0)
 clear hx hx0 hw hv
 unfold IsOc
 unfold IsPVE vv at HT
 simp only
 generalize Dct.ctL x.v.prs c.key=m at *
 generalize Dct.gtV x.v.prs c.key=v at *
 generalize Dct.gtE x.v.prs c.key=z at *
 go_enter Tryz.func132,Tryz.ntmps132
 go_wp2_with (first|refine wpList_exe (kcm_k HK 2 _ (by rfl) (by rfl) (by rfl)) (by rfl) ?_|(refine wpList_arp HK rfl rfl ?_;intro _ g7 HK';simp only[lcA,lnA] at HK';replace HK:=HK';clear HK')|(refine wpList_srp (q:=Sto.rz) HK 4 rfl _ _ rfl rfl rfl rfl ?_;intro _ HK';simp only[List.set] at HK';replace HK:=HK';clear HK')|refine wpList_exe (kob_p HK 0 _ (by rfl) (by rfl) (by rfl)) (by rfl) ?_|refine wpList_exe (kcm_y HK 2 _ (by rfl) (by rfl) (by rfl)) (by rfl) ?_)
 refine(HT.out _ HK.out.b).mono ?_;rintro e w1 ⟨A4,n4,c4,rfl,o4,b4⟩
 replace HK:=zH (HK.out.called b4 o4)
 simp only[lnA] at HK
 clear o4 b4
 go_wp2_with (first|(refine wpList_sop HK 0 rfl _ _ rfl rfl rfl rfl m ?_;intro _ HK';simp only[List.set] at HK';replace HK:=HK';clear HK')|(refine wpList_srv (z:=v) HK 4 rfl _ _ rfl rfl rfl rfl ?_;intro _ HK';simp only[List.set] at HK';replace HK:=HK';clear HK')|(refine wpList_sre HK 4 rfl _ _ rfl rfl rfl rfl ?_;intro _ HK';simp only[List.set] at HK';replace HK:=HK';clear HK')|refine wpList_exe (kob HK 0 _ (by rfl) (by rfl) (by rfl)) (by rfl) ?_|refine wpList_exe (krp HK 4 _ (by rfl) (by rfl) (by rfl)) (by rfl) ?_|refine wpList_exe (exec_b2 (p:=⟨z,v⟩) _ _ (by rfl) (by rfl) (by rfl)) (by rfl) ?_|(refine wpList_soc HK 3 rfl _ _ rfl rfl rfl rfl ?_;intro _ HK';simp only[List.set] at HK';replace HK:=HK';clear HK'))
 exact ret_oc Tryz.results132 rfl rfl (HK.out.blk 3 rfl) ⟨_,_,_,_,_,rfl,rfl,HK.out.takeL 0,fun _ _ _ _ _ K hm=>⟨fun hb=>(HI.out.later hb).sp (Sl.own (K.mem (hm _ (List.mem_cons_self ..))) HF.out),Sls.none _⟩⟩
theorem act_9(w0:World)(x:Oh)(r:Rf)(c:Cmd.C)(w:World)(hx0:In w0 x)(hw:Below w0.heap.size w0 w)(hv:c.val.f<18446744073709551616)(hk:c.k=9):Calls Tryz.prog 132 #[.agg (obA x),.agg #[.int .i64 r.c,.int .i64 r.e,.int .i64 r.r],.agg (cmA c)] w (IsOc w0 (Sto.act x.v r c) w):=by
 have he:Sto.act x.v r c=⟨{ x.v with prs:=Dct.swL x.v.prs c.key c.old c.val },⟨Dct.swE x.v.prs c.key c.old c.val,Dct.swV x.v.prs c.key c.old⟩,false,[]⟩:=by
  unfold Sto.act
  simp[hk]
 rw[he]
 clear he
 have hx:=hx0.later hw
 have HI:=zH hx0
 have HT:=zH (fun W (hW:Below w.heap.size w W)=>swap_any x.pA x.pc x.pn x.v.prs c.key c.old c.val W (hx.p.later hW) hv)
 have HF:=zH (hx.p.fit.sw (k:=c.key) (o:=c.old) hv)
 have HK:=kn4 w 60 (obA x) 35 #[.int .i64 r.c,.int .i64 r.e,.int .i64 r.r] 37 (cmA c) 158 (ocA ohZ Sto.rz false none 0 0)
 clear hx hx0 hw hv
 unfold IsOc
 unfold IsPVE vv at HT
 simp only
 generalize Dct.swL x.v.prs c.key c.old c.val=m at *
 generalize Dct.swV x.v.prs c.key c.old=v at *
 generalize Dct.swE x.v.prs c.key c.old c.val=z at *
 go_enter Tryz.func132,Tryz.ntmps132
 go_wp2_with (first|refine wpList_exe (kcm_k HK 2 _ (by rfl) (by rfl) (by rfl)) (by rfl) ?_|(refine wpList_arp HK rfl rfl ?_;intro _ g7 HK';simp only[lcA,lnA] at HK';replace HK:=HK';clear HK')|(refine wpList_srp (q:=Sto.rz) HK 4 rfl _ _ rfl rfl rfl rfl ?_;intro _ HK';simp only[List.set] at HK';replace HK:=HK';clear HK')|refine wpList_exe (kob_p HK 0 _ (by rfl) (by rfl) (by rfl)) (by rfl) ?_|refine wpList_exe (kcm_y HK 2 _ (by rfl) (by rfl) (by rfl)) (by rfl) ?_|refine wpList_exe (kcm_v HK 2 _ (by rfl) (by rfl) (by rfl)) (by rfl) ?_|refine wpList_exe (kcm_o HK 2 _ (by rfl) (by rfl) (by rfl)) (by rfl) ?_)
 refine(HT.out _ HK.out.b).mono ?_;rintro e w1 ⟨A4,n4,c4,rfl,o4,b4⟩
 replace HK:=zH (HK.out.called b4 o4)
 simp only[lnA] at HK
 clear o4 b4
 go_wp2_with (first|(refine wpList_sop HK 0 rfl _ _ rfl rfl rfl rfl m ?_;intro _ HK';simp only[List.set] at HK';replace HK:=HK';clear HK')|(refine wpList_srv (z:=v) HK 4 rfl _ _ rfl rfl rfl rfl ?_;intro _ HK';simp only[List.set] at HK';replace HK:=HK';clear HK')|(refine wpList_sre HK 4 rfl _ _ rfl rfl rfl rfl ?_;intro _ HK';simp only[List.set] at HK';replace HK:=HK';clear HK')|refine wpList_exe (kob HK 0 _ (by rfl) (by rfl) (by rfl)) (by rfl) ?_|refine wpList_exe (krp HK 4 _ (by rfl) (by rfl) (by rfl)) (by rfl) ?_|refine wpList_exe (exec_b2 (p:=⟨z,v⟩) _ _ (by rfl) (by rfl) (by rfl)) (by rfl) ?_|(refine wpList_soc HK 3 rfl _ _ rfl rfl rfl rfl ?_;intro _ HK';simp only[List.set] at HK';replace HK:=HK';clear HK'))
 exact ret_oc Tryz.results132 rfl rfl (HK.out.blk 3 rfl) ⟨_,_,_,_,_,rfl,rfl,HK.out.takeL 0,fun _ _ _ _ _ K hm=>⟨fun hb=>(HI.out.later hb).sp (Sl.own (K.mem (hm _ (List.mem_cons_self ..))) HF.out),Sls.none _⟩⟩
theorem act_10(w0:World)(x:Oh)(r:Rf)(c:Cmd.C)(w:World)(hx0:In w0 x)(hw:Below w0.heap.size w0 w)(hv:c.val.f<18446744073709551616)(hk:c.k=10):Calls Tryz.prog 132 #[.agg (obA x),.agg #[.int .i64 r.c,.int .i64 r.e,.int .i64 r.r],.agg (cmA c)] w (IsOc w0 (Sto.act x.v r c) w):=by
 have he:Sto.act x.v r c=⟨{ x.v with vals:=Que.psL x.v.cap x.v.vals c.val },Sto.err (Que.psE x.v.cap x.v.vals c.val),false,[]⟩:=by
  unfold Sto.act
  simp[hk]
 rw[he]
 clear he
 have hx:=hx0.later hw
 have HI:=zH hx0
 have HT:=zH (fun W (hW:Below w.heap.size w W)=>push_any x.v.cap x.vA x.vc x.vn x.v.vals c.val W (hx.v.later hW) hv)
 have HF:=zH (fits_ps (N:=x.v.cap) hx.v.fit hv)
 have HK:=kn4 w 60 (obA x) 35 #[.int .i64 r.c,.int .i64 r.e,.int .i64 r.r] 37 (cmA c) 158 (ocA ohZ Sto.rz false none 0 0)
 clear hx hx0 hw hv
 unfold IsOc
 unfold IsLEg vv at HT
 simp only
 generalize Que.psL x.v.cap x.v.vals c.val=m at *
 generalize Que.psE x.v.cap x.v.vals c.val=z at *
 go_enter Tryz.func132,Tryz.ntmps132
 go_wp2_with (first|refine wpList_exe (kcm_k HK 2 _ (by rfl) (by rfl) (by rfl)) (by rfl) ?_|(refine wpList_arp HK rfl rfl ?_;intro _ g7 HK';simp only[lcA,lnA] at HK';replace HK:=HK';clear HK')|(refine wpList_srp (q:=Sto.rz) HK 4 rfl _ _ rfl rfl rfl rfl ?_;intro _ HK';simp only[List.set] at HK';replace HK:=HK';clear HK')|refine wpList_exe (kob_c HK 0 _ (by rfl) (by rfl) (by rfl)) (by rfl) ?_|refine wpList_exe (kob_v HK 0 _ (by rfl) (by rfl) (by rfl)) (by rfl) ?_|refine wpList_exe (kcm_v HK 2 _ (by rfl) (by rfl) (by rfl)) (by rfl) ?_)
 refine(HT.out _ HK.out.b).mono ?_;rintro e w1 ⟨A4,n4,c4,rfl,o4,b4⟩
 replace HK:=zH (HK.out.called b4 o4)
 simp only[lnA] at HK
 clear o4 b4
 go_wp2_with (first|(refine wpList_sov HK 0 rfl _ _ rfl rfl rfl rfl m ?_;intro _ HK';simp only[List.set] at HK';replace HK:=HK';clear HK')|(refine wpList_sre HK 4 rfl _ _ rfl rfl rfl rfl ?_;intro _ HK';simp only[List.set] at HK';replace HK:=HK';clear HK')|refine wpList_exe (kob HK 0 _ (by rfl) (by rfl) (by rfl)) (by rfl) ?_|refine wpList_exe (krp HK 4 _ (by rfl) (by rfl) (by rfl)) (by rfl) ?_|refine wpList_exe (exec_b2 (p:=Sto.err z) _ _ (by rfl) (by rfl) (by rfl)) (by rfl) ?_|(refine wpList_soc HK 3 rfl _ _ rfl rfl rfl rfl ?_;intro _ HK';simp only[List.set] at HK';replace HK:=HK';clear HK'))
 exact ret_oc Tryz.results132 rfl rfl (HK.out.blk 3 rfl) ⟨_,_,_,_,_,rfl,rfl,HK.out.takeL 0,fun _ _ _ _ _ K hm=>⟨fun hb=>(HI.out.later hb).sv (Sls.own (K.mem (hm _ (List.mem_cons_self ..))) HF.out),Sls.none _⟩⟩
theorem act_11(w0:World)(x:Oh)(r:Rf)(c:Cmd.C)(w:World)(hx0:In w0 x)(hw:Below w0.heap.size w0 w)(hv:c.val.f<18446744073709551616)(hk:c.k=11):Calls Tryz.prog 132 #[.agg (obA x),.agg #[.int .i64 r.c,.int .i64 r.e,.int .i64 r.r],.agg (cmA c)] w (IsOc w0 (Sto.act x.v r c) w):=by
 have he:Sto.act x.v r c=⟨{ x.v with vals:=Que.ppL x.v.cap x.v.vals },⟨Que.ppE x.v.cap x.v.vals,Que.ppV x.v.cap x.v.vals⟩,false,[]⟩:=by
  unfold Sto.act
  simp[hk]
 rw[he]
 clear he
 have hx:=hx0.later hw
 have HI:=zH hx0
 have HT:=zH (fun W (hW:Below w.heap.size w W)=>pop_any x.v.cap x.vA x.vc x.vn x.v.vals W (hx.v.later hW))
 have HF:=zH (fits_pp (N:=x.v.cap) hx.v.fit)
 have HK:=kn4 w 60 (obA x) 35 #[.int .i64 r.c,.int .i64 r.e,.int .i64 r.r] 37 (cmA c) 158 (ocA ohZ Sto.rz false none 0 0)
 clear hx hx0 hw hv
 unfold IsOc
 unfold IsQP vv at HT
 simp only
 generalize Que.ppL x.v.cap x.v.vals=m at *
 generalize Que.ppV x.v.cap x.v.vals=v at *
 generalize Que.ppE x.v.cap x.v.vals=z at *
 go_enter Tryz.func132,Tryz.ntmps132
 go_wp2_with (first|refine wpList_exe (kcm_k HK 2 _ (by rfl) (by rfl) (by rfl)) (by rfl) ?_|(refine wpList_arp HK rfl rfl ?_;intro _ g7 HK';simp only[lcA,lnA] at HK';replace HK:=HK';clear HK')|(refine wpList_srp (q:=Sto.rz) HK 4 rfl _ _ rfl rfl rfl rfl ?_;intro _ HK';simp only[List.set] at HK';replace HK:=HK';clear HK')|refine wpList_exe (kob_c HK 0 _ (by rfl) (by rfl) (by rfl)) (by rfl) ?_|refine wpList_exe (kob_v HK 0 _ (by rfl) (by rfl) (by rfl)) (by rfl) ?_)
 refine(HT.out _ HK.out.b).mono ?_;rintro e w1 ⟨A4,n4,c4,rfl,o4,b4⟩
 replace HK:=zH (HK.out.called b4 o4)
 simp only[lnA] at HK
 clear o4 b4
 go_wp2_with (first|(refine wpList_sov HK 0 rfl _ _ rfl rfl rfl rfl m ?_;intro _ HK';simp only[List.set] at HK';replace HK:=HK';clear HK')|(refine wpList_srv (z:=v) HK 4 rfl _ _ rfl rfl rfl rfl ?_;intro _ HK';simp only[List.set] at HK';replace HK:=HK';clear HK')|(refine wpList_sre HK 4 rfl _ _ rfl rfl rfl rfl ?_;intro _ HK';simp only[List.set] at HK';replace HK:=HK';clear HK')|refine wpList_exe (kob HK 0 _ (by rfl) (by rfl) (by rfl)) (by rfl) ?_|refine wpList_exe (krp HK 4 _ (by rfl) (by rfl) (by rfl)) (by rfl) ?_|refine wpList_exe (exec_b2 (p:=⟨z,v⟩) _ _ (by rfl) (by rfl) (by rfl)) (by rfl) ?_|(refine wpList_soc HK 3 rfl _ _ rfl rfl rfl rfl ?_;intro _ HK';simp only[List.set] at HK';replace HK:=HK';clear HK'))
 exact ret_oc Tryz.results132 rfl rfl (HK.out.blk 3 rfl) ⟨_,_,_,_,_,rfl,rfl,HK.out.takeL 0,fun _ _ _ _ _ K hm=>⟨fun hb=>(HI.out.later hb).sv (Sls.own (K.mem (hm _ (List.mem_cons_self ..))) HF.out),Sls.none _⟩⟩
theorem act_15(w0:World)(x:Oh)(r:Rf)(c:Cmd.C)(w:World)(hx0:In w0 x)(hw:Below w0.heap.size w0 w)(hv:c.val.f<18446744073709551616)(hk:c.k=15):Calls Tryz.prog 132 #[.agg (obA x),.agg #[.int .i64 r.c,.int .i64 r.e,.int .i64 r.r],.agg (cmA c)] w (IsOc w0 (Sto.act x.v r c) w):=by
 have he:Sto.act x.v r c=⟨{ x.v with mt:=Mt.ad x.v.mt c.val.f },Sto.err (Mt.adE x.v.mt),false,[]⟩:=by
  unfold Sto.act
  simp[hk]
 rw[he]
 clear he
 have hx:=hx0.later hw
 have HI:=zH hx0
 have HT:=zH (fun W (hW:Below w.heap.size w W)=>madd_any x.v.mt hx.m c.val.f hv W)
 have HF:=zH (Mt.fit_ad hx.m hv)
 have HK:=kn4 w 60 (obA x) 35 #[.int .i64 r.c,.int .i64 r.e,.int .i64 r.r] 37 (cmA c) 158 (ocA ohZ Sto.rz false none 0 0)
 clear hx hx0 hw hv
 unfold IsOc
 unfold IsMe at HT
 simp only
 generalize Mt.ad x.v.mt c.val.f=m at *
 generalize Mt.adE x.v.mt=z at *
 go_enter Tryz.func132,Tryz.ntmps132
 go_wp2_with (first|refine wpList_exe (kcm_k HK 2 _ (by rfl) (by rfl) (by rfl)) (by rfl) ?_|(refine wpList_arp HK rfl rfl ?_;intro _ g7 HK';simp only[lcA,lnA] at HK';replace HK:=HK';clear HK')|(refine wpList_srp (q:=Sto.rz) HK 4 rfl _ _ rfl rfl rfl rfl ?_;intro _ HK';simp only[List.set] at HK';replace HK:=HK';clear HK')|refine wpList_exe (kob_m HK 0 _ (by rfl) (by rfl) (by rfl)) (by rfl) ?_|refine wpList_exe (kcm_f HK 2 _ (by rfl) (by rfl) (by rfl)) (by rfl) ?_)
 refine(HT.out _ HK.out.b).mono ?_;rintro e w1 ⟨rfl,b1⟩
 replace HK:=hkC HK b1;clear b1
 go_wp2_with (first|(refine wpList_som (m:=m) HK 0 rfl _ _ rfl rfl rfl rfl ?_;intro _ HK';simp only[List.set] at HK';replace HK:=HK';clear HK')|(refine wpList_sre HK 4 rfl _ _ rfl rfl rfl rfl ?_;intro _ HK';simp only[List.set] at HK';replace HK:=HK';clear HK')|refine wpList_exe (kob HK 0 _ (by rfl) (by rfl) (by rfl)) (by rfl) ?_|refine wpList_exe (krp HK 4 _ (by rfl) (by rfl) (by rfl)) (by rfl) ?_|refine wpList_exe (exec_b2 (p:=Sto.err z) _ _ (by rfl) (by rfl) (by rfl)) (by rfl) ?_|(refine wpList_soc HK 3 rfl _ _ rfl rfl rfl rfl ?_;intro _ HK';simp only[List.set] at HK';replace HK:=HK';clear HK'))
 exact ret_oc Tryz.results132 rfl rfl (HK.out.blk 3 rfl) ⟨_,_,_,_,_,rfl,rfl,HK.out.takeL 0,fun _ _ _ _ _ K hm=>⟨fun hb=>(HI.out.later hb).sm HF.out,Sls.none _⟩⟩
theorem act_16(w0:World)(x:Oh)(r:Rf)(c:Cmd.C)(w:World)(hx0:In w0 x)(hw:Below w0.heap.size w0 w)(hv:c.val.f<18446744073709551616)(hk:c.k=16):Calls Tryz.prog 132 #[.agg (obA x),.agg #[.int .i64 r.c,.int .i64 r.e,.int .i64 r.r],.agg (cmA c)] w (IsOc w0 (Sto.act x.v r c) w):=by
 have he:Sto.act x.v r c=⟨x.v,⟨(Mt.rd x.v.mt c.n).e,⟨(Mt.rd x.v.mt c.n).k,(Mt.rd x.v.mt c.n).n,(Mt.rd x.v.mt c.n).f,⟨#[]⟩⟩⟩,false,[]⟩:=by
  unfold Sto.act
  simp[hk]
 rw[he]
 clear he
 have hx:=hx0.later hw
 have HI:=zH hx0
 have HT:=zH (fun W (hW:Below w.heap.size w W)=>mread_any x.v.mt hx.m c.n W)
 have HK:=kn4 w 60 (obA x) 35 #[.int .i64 r.c,.int .i64 r.e,.int .i64 r.r] 37 (cmA c) 158 (ocA ohZ Sto.rz false none 0 0)
 clear hx hx0 hw hv
 unfold IsOc
 unfold IsVe at HT
 simp only
 generalize Mt.rd x.v.mt c.n=d at *
 go_enter Tryz.func132,Tryz.ntmps132
 go_wp2_with (first|refine wpList_exe (kcm_k HK 2 _ (by rfl) (by rfl) (by rfl)) (by rfl) ?_|(refine wpList_arp HK rfl rfl ?_;intro _ g7 HK';simp only[lcA,lnA] at HK';replace HK:=HK';clear HK')|(refine wpList_srp (q:=Sto.rz) HK 4 rfl _ _ rfl rfl rfl rfl ?_;intro _ HK';simp only[List.set] at HK';replace HK:=HK';clear HK')|refine wpList_exe (kob_m HK 0 _ (by rfl) (by rfl) (by rfl)) (by rfl) ?_|refine wpList_exe (kcm_N HK 2 _ (by rfl) (by rfl) (by rfl)) (by rfl) ?_)
 refine(HT.out _ HK.out.b).mono ?_;rintro e w1 ⟨rfl,b1⟩
 replace HK:=hkC HK b1;clear b1
 go_wp2_with (first|(refine wpList_srv (z:=⟨d.k,d.n,d.f,⟨#[]⟩⟩) HK 4 rfl _ _ rfl rfl rfl rfl ?_;intro _ HK';simp only[List.set] at HK';replace HK:=HK';clear HK')|(refine wpList_sre HK 4 rfl _ _ rfl rfl rfl rfl ?_;intro _ HK';simp only[List.set] at HK';replace HK:=HK';clear HK')|refine wpList_exe (kob HK 0 _ (by rfl) (by rfl) (by rfl)) (by rfl) ?_|refine wpList_exe (krp HK 4 _ (by rfl) (by rfl) (by rfl)) (by rfl) ?_|refine wpList_exe (exec_b2 (p:=⟨d.e,⟨d.k,d.n,d.f,⟨#[]⟩⟩⟩) _ _ (by rfl) (by rfl) (by rfl)) (by rfl) ?_|(refine wpList_soc HK 3 rfl _ _ rfl rfl rfl rfl ?_;intro _ HK';simp only[List.set] at HK';replace HK:=HK';clear HK'))
 exact ret_oc Tryz.results132 rfl rfl (HK.out.blk 3 rfl) ⟨_,_,_,_,_,rfl,rfl,HK.out.takeL 0,fun _ _ _ _ _ K hm=>⟨fun hb=>HI.out.later hb,Sls.none _⟩⟩
theorem act_17(w0:World)(x:Oh)(r:Rf)(c:Cmd.C)(w:World)(hx0:In w0 x)(hw:Below w0.heap.size w0 w)(hv:c.val.f<18446744073709551616)(hk:c.k=17):Calls Tryz.prog 132 #[.agg (obA x),.agg #[.int .i64 r.c,.int .i64 r.e,.int .i64 r.r],.agg (cmA c)] w (IsOc w0 (Sto.act x.v r c) w):=by
 have he:Sto.act x.v r c=⟨x.v,⟨0,Sto.num (Sto.size x.v)⟩,false,[]⟩:=by
  unfold Sto.act
  simp[hk]
 rw[he]
 clear he
 have hx:=hx0.later hw
 have HI:=zH hx0
 have HT:=zH (fun W (hW:Below w.heap.size w W)=>ssize_any x W (hx.later hW))
 have HNu:=zH snumber_any
 have HK:=kn4 w 60 (obA x) 35 #[.int .i64 r.c,.int .i64 r.e,.int .i64 r.r] 37 (cmA c) 158 (ocA ohZ Sto.rz false none 0 0)
 clear hx hx0 hw hv
 unfold IsOc
 simp only
 generalize Sto.size x.v=z at *
 go_enter Tryz.func132,Tryz.ntmps132
 go_wp2_with (first|refine wpList_exe (kcm_k HK 2 _ (by rfl) (by rfl) (by rfl)) (by rfl) ?_|(refine wpList_arp HK rfl rfl ?_;intro _ g7 HK';simp only[lcA,lnA] at HK';replace HK:=HK';clear HK')|(refine wpList_srp (q:=Sto.rz) HK 4 rfl _ _ rfl rfl rfl rfl ?_;intro _ HK';simp only[List.set] at HK';replace HK:=HK';clear HK')|refine wpList_exe (kob HK 0 _ (by rfl) (by rfl) (by rfl)) (by rfl) ?_)
 refine(HT.out _ HK.out.b).mono ?_;rintro e w1 ⟨rfl,b1⟩
 replace HK:=hkC HK b1;clear b1
 go_wp2_with fail
 refine(HNu.out _ _).mono ?_;rintro e w1 ⟨rfl,b1⟩
 replace HK:=hkC HK b1;clear b1
 go_wp2_with (first|(refine wpList_srv (z:=Sto.num z) HK 4 rfl _ _ rfl rfl rfl rfl ?_;intro _ HK';simp only[List.set] at HK';replace HK:=HK';clear HK')|refine wpList_exe (kob HK 0 _ (by rfl) (by rfl) (by rfl)) (by rfl) ?_|refine wpList_exe (krp HK 4 _ (by rfl) (by rfl) (by rfl)) (by rfl) ?_|refine wpList_exe (exec_b2 (p:=⟨0,Sto.num z⟩) _ _ (by rfl) (by rfl) (by rfl)) (by rfl) ?_|(refine wpList_soc HK 3 rfl _ _ rfl rfl rfl rfl ?_;intro _ HK';simp only[List.set] at HK';replace HK:=HK';clear HK'))
 exact ret_oc Tryz.results132 rfl rfl (HK.out.blk 3 rfl) ⟨_,_,_,_,_,rfl,rfl,HK.out.takeL 0,fun _ _ _ _ _ K hm=>⟨fun hb=>HI.out.later hb,Sls.none _⟩⟩
theorem act_12(w0:World)(x:Oh)(r:Rf)(c:Cmd.C)(w:World)(hx0:In w0 x)(hw:Below w0.heap.size w0 w)(hv:c.val.f<18446744073709551616)(hk:c.k=12):Calls Tryz.prog 132 #[.agg (obA x),.agg #[.int .i64 r.c,.int .i64 r.e,.int .i64 r.r],.agg (cmA c)] w (IsOc w0 (Sto.act x.v r c) w):=by
 have he:Sto.act x.v r c=Sto.take x.v r:=by
  unfold Sto.act
  simp[hk]
 rw[he]
 clear he
 have hx:=hx0.later hw
 have HI:=zH hx0
 have HT:=zH (fun W (hW:Below w.heap.size w W)=>stake_any w0 x r W hx0 (hw.trans (hW.mono hw.size)))
 have HK:=kn4 w 60 (obA x) 35 #[.int .i64 r.c,.int .i64 r.e,.int .i64 r.r] 37 (cmA c) 158 (ocA ohZ Sto.rz false none 0 0)
 clear hx hx0 hw hv
 unfold IsOc at *
 go_enter Tryz.func132,Tryz.ntmps132
 go_wp2_with (first|refine wpList_exe (kcm_k HK 2 _ (by rfl) (by rfl) (by rfl)) (by rfl) ?_|refine wpList_exe (kob HK 0 _ (by rfl) (by rfl) (by rfl)) (by rfl) ?_|refine wpList_exe (kexec_lr HK 1 _ (by rfl) (by rfl) (by rfl)) (by rfl) ?_)
 refine(HT.out _ HK.out.b).mono ?_;rintro e w1 ⟨y,A4,n4,c4,Rn,rfl,v4,k4,i4⟩
 replace HK:=zH (HK.out.join k4)
 have HIy:=zH i4
 clear k4 i4
 simp only[lnA] at HK
 go_wp2_with (first|(refine wpList_soc HK 3 rfl _ _ rfl rfl rfl rfl ?_;intro _ HK';simp only[List.set] at HK';replace HK:=HK';clear HK'))
 exact ret_oc Tryz.results132 rfl rfl (HK.out.blk 3 rfl) ⟨y,A4,n4,c4,Rn,rfl,v4,HK.out.takeL 0,HIy.out⟩
theorem act_13(w0:World)(x:Oh)(r:Rf)(c:Cmd.C)(w:World)(hx0:In w0 x)(hw:Below w0.heap.size w0 w)(hv:c.val.f<18446744073709551616)(hk:c.k=13):Calls Tryz.prog 132 #[.agg (obA x),.agg #[.int .i64 r.c,.int .i64 r.e,.int .i64 r.r],.agg (cmA c)] w (IsOc w0 (Sto.act x.v r c) w):=by
 have he:Sto.act x.v r c=Sto.free x.v r:=by
  unfold Sto.act
  simp[hk]
 rw[he]
 clear he
 have hx:=hx0.later hw
 have HI:=zH hx0
 have HT:=zH (fun W (hW:Below w.heap.size w W)=>sfree_any w0 x r W hx0 (hw.trans (hW.mono hw.size)))
 have HK:=kn4 w 60 (obA x) 35 #[.int .i64 r.c,.int .i64 r.e,.int .i64 r.r] 37 (cmA c) 158 (ocA ohZ Sto.rz false none 0 0)
 clear hx hx0 hw hv
 unfold IsOc at *
 go_enter Tryz.func132,Tryz.ntmps132
 go_wp2_with (first|refine wpList_exe (kcm_k HK 2 _ (by rfl) (by rfl) (by rfl)) (by rfl) ?_|refine wpList_exe (kob HK 0 _ (by rfl) (by rfl) (by rfl)) (by rfl) ?_|refine wpList_exe (kexec_lr HK 1 _ (by rfl) (by rfl) (by rfl)) (by rfl) ?_)
 refine(HT.out _ HK.out.b).mono ?_;rintro e w1 ⟨y,A4,n4,c4,Rn,rfl,v4,k4,i4⟩
 replace HK:=zH (HK.out.join k4)
 have HIy:=zH i4
 clear k4 i4
 simp only[lnA] at HK
 go_wp2_with (first|(refine wpList_soc HK 3 rfl _ _ rfl rfl rfl rfl ?_;intro _ HK';simp only[List.set] at HK';replace HK:=HK';clear HK'))
 exact ret_oc Tryz.results132 rfl rfl (HK.out.blk 3 rfl) ⟨y,A4,n4,c4,Rn,rfl,v4,HK.out.takeL 0,HIy.out⟩
theorem act_14(w0:World)(x:Oh)(r:Rf)(c:Cmd.C)(w:World)(hx0:In w0 x)(hw:Below w0.heap.size w0 w)(hv:c.val.f<18446744073709551616)(hk:c.k=14)(hd:0≤x.v.round):Calls Tryz.prog 132 #[.agg (obA x),.agg #[.int .i64 r.c,.int .i64 r.e,.int .i64 r.r],.agg (cmA c)] w (IsOc w0 (Sto.act x.v r c) w):=by
 have he:Sto.act x.v r c=Sto.wait x.v r:=by
  unfold Sto.act
  simp[hk]
 rw[he]
 clear he
 have hx:=hx0.later hw
 have HI:=zH hx0
 have HT:=zH (fun W (hW:Below w.heap.size w W)=>swait_any w0 x r W hx0 (hw.trans (hW.mono hw.size)) hd)
 have HK:=kn4 w 60 (obA x) 35 #[.int .i64 r.c,.int .i64 r.e,.int .i64 r.r] 37 (cmA c) 158 (ocA ohZ Sto.rz false none 0 0)
 clear hx hx0 hw hv
 unfold IsOc at *
 go_enter Tryz.func132,Tryz.ntmps132
 go_wp2_with (first|refine wpList_exe (kcm_k HK 2 _ (by rfl) (by rfl) (by rfl)) (by rfl) ?_|refine wpList_exe (kob HK 0 _ (by rfl) (by rfl) (by rfl)) (by rfl) ?_|refine wpList_exe (kexec_lr HK 1 _ (by rfl) (by rfl) (by rfl)) (by rfl) ?_)
 refine(HT.out _ HK.out.b).mono ?_;rintro e w1 ⟨y,A4,n4,c4,Rn,rfl,v4,k4,i4⟩
 replace HK:=zH (HK.out.join k4)
 have HIy:=zH i4
 clear k4 i4
 simp only[lnA] at HK
 go_wp2_with (first|(refine wpList_soc HK 3 rfl _ _ rfl rfl rfl rfl ?_;intro _ HK';simp only[List.set] at HK';replace HK:=HK';clear HK'))
 exact ret_oc Tryz.results132 rfl rfl (HK.out.blk 3 rfl) ⟨y,A4,n4,c4,Rn,rfl,v4,HK.out.takeL 0,HIy.out⟩
end
end Go.Proofs.YtddpmlcpfmmbeaaGreat
