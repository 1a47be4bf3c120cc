/- What the document's Same, and the laws' own twin, num and awake return. No condition but those named. -/
import Derived.Test.YtddpmlcpfmmbeaaGreatTk
import Derived.Test.YtddpmlcpfmmbeaaGreatKBN
import Derived.Test.YtddpmlcpfmmbeaaGreatKBO
import Derived.Test.YtddpmlcpfmmbeaaGreatKAZ
import Derived.Deep.DeepCutAuto
set_option linter.unusedSimpArgs false
set_option linter.unusedVariables false
set_option maxRecDepth 100000
set_option maxHeartbeats 25600000
namespace Go.Proofs.YtddpmlcpfmmbeaaGreat
section
open Go.RowKit
section
variable {b0:Nat}{w0 w:World}{L:List (Nat×TypeId×Array Value)}{R:List RowE}{ops:Array Oper}{rest:List Oper}{o:Oper}{a:Act}{Q:Exit→Act→World→Prop}{p1 p2 p3 p4 p5 p6 p7:Cmd.E}
theorem wpList_mk7(HK:Hid (Kn b0 w0 w L R))(hgd:o.guard=none)(x1 x2 x3 x4 x5 x6 x7:Operand)(ho:o.op=.buildSlice 49 7 #[(0,x1),(1,x2),(2,x3),(3,x4),(4,x5),(5,x6),(6,x7)])
  (h1:a.eval x1=.agg (evA p1)) (h2:a.eval x2=.agg (evA p2)) (h3:a.eval x3=.agg (evA p3)) (h4:a.eval x4=.agg (evA p4)) (h5:a.eval x5=.agg (evA p5)) (h6:a.eval x6=.agg (evA p6)) (h7:a.eval x7=.agg (evA p7))
  (h:∀w' g,Hid (Kn b0 w0 w' L (R++[row evLay (.slice (some ⟨g,0,none⟩) 7 7) [p1,p2,p3,p4,p5,p6,p7]]))→wpList Tryz.prog ops Q rest (a.put o.dst (.slice (some ⟨g,0,none⟩) 7 7)) w'):wpList Tryz.prog ops Q (o::rest) a w:=
 wpList_plain hgd fun _ hK=>kwp_mk evLay HK [p1,p2,p3,p4,p5,p6,p7] 7 _ ho [.agg (evA p1),.agg (evA p2),.agg (evA p3),.agg (evA p4),.agg (evA p5),.agg (evA p6),.agg (evA p7)] (by simp[h1,h2,h3,h4,h5,h6,h7]) rfl rfl (by show 7*16≤_;decide) fun w' g h1 _=>hK _ _ (h w' g h1)
end
theorem ev_any(c e r k:Int)(s:ByteArray)(n:Int)(w:World):Calls Tryz.prog 31 #[.int .i64 c,.int .i64 e,.int .i64 r,.int .i64 k,.string s,.int .i64 n] w (fun en w'=>en=.returned (.agg (evA (Ap.evM c e r k s n)))∧Below w.heap.size w w'):=by
 have HK:=zH (Kn.start w)
 go_enter Tryz.func31,Tryz.ntmps31
 go_wp2_with (first|(refine wpList_akev HK rfl rfl ?_;intro _ g2 HK';simp only[lnA] at HK';replace HK:=HK';clear HK')|(refine wpList_sev (e2:=Ap.evM c e r k s n) HK 0 rfl _ _ rfl rfl rfl rfl ?_;intro _ HK' _;simp only[List.set] at HK';replace HK:=HK';clear HK'))
 refine bodyPost_ret (results_cell_row Tryz.results31 _ _ g2 _ _ (0,0) _ (by rfl) (HK.out.blk 0 rfl) Tryz.underlying39 rfl info_ev) rfl ⟨rfl,HK.out.b⟩
theorem all_any(A:Option Addr)(c N:Nat)(l:List Cmd.E)(w:World)(hs:Sls evLay eF w A N c l)(hN:N≤120):
  Calls Tryz.prog 19 #[.slice A N c] w (IsSt (fun _=>True) (Ap.all Ap.s0 l).1 (Ap.all Ap.s0 l).2 w):=by
 have HS:=zH hs
 have HNl:Hid (l.length=N):=zH hs.len
 have HFe:Hid (∀x∈l,eF x):=zH hs.fit.fs
 have HAp:Hid (∀(x:Cmd.E),eF x→∀(n:Int) A1 k1 c1 t1 lo W,Obs W A1 k1 c1 lo→Ses.Fit t1→n≤9223372036854775807→Calls Tryz.prog 10 #[.agg (stA n A1 k1 c1 t1),.agg (evA x)] W (IsSt (fun _=>True) (Ap.apS ⟨n,vs lo,t1⟩ x) (Ap.apO ⟨n,vs lo,t1⟩ x) W)):=zH fun x hx n A1 k1 c1 t1 lo W ho hf hn=>apapply_any n A1 k1 c1 t1 lo x W ho hf hx.1 hx.2.1 hx.2.2 hn
 have HK:=zH (Kn.start w)
 have HFin:Hid (Ap.all Ap.s0 (l.take N)=((Ap.all Ap.s0 l).1,(Ap.all Ap.s0 l).2)):=zH (by rw[← hs.len,List.take_length])
 unfold IsSt at HAp
 clear hs
 generalize (Ap.all Ap.s0 l).1=sF at *
 generalize (Ap.all Ap.s0 l).2=oF at *
 go_enter Tryz.func19,Tryz.ntmps19
 go_upto_region 1 with (first|(refine wpList_ast HK rfl rfl ?_;intro _ g2 HK';simp only[lcA,lnA] at HK';replace HK:=HK';clear HK'))
 go_upto_region 2 with (first|(refine wpList_ast HK rfl rfl ?_;intro _ g4 HK';simp only[lcA,lnA] at HK';replace HK:=HK';clear HK'))
 replace HK:=zH (HK.out.nilR otLay)
 simp only[lnA] at HK
 go_wp2_with fail
 go_loopw [5,6] (fun v5 v6 wr=>∃(i:Nat) (n:Int) (A1:Option Addr) (k1 c1:Nat) (t1:Ses.T) (lo:List Oh) (O:Option Addr) (m d:Nat) (os:List Sto.Ot) (R2:List RowE),i≤N∧v5=.slice O m d∧v6=.int .i64 i∧Hid (Ap.all Ap.s0 (l.take i)=(⟨n,vs lo,t1⟩,os))∧Hid (Ses.Fit t1)∧Hid (Kn w.heap.size w wr [(g2,33,stA 0 none 0 0 tz),(g4,33,stA n A1 k1 c1 t1)] (row otLay (.slice O m d) os::R2))∧Hid (∀(b:Nat) (W0 W:World) L R,Kn b W0 W L R→(∀z∈R2,z∈R)→Obs W A1 k1 c1 lo)) (fun _ v6 _=>N-(intOf v6).toNat)
 case atStart=>exact⟨0,0,none,0,0,tz,[],none,0,0,[],[],Nat.zero_le _,rfl,rfl,zH rfl,zH Ses.fit_0,HK,zH fun b W0 W L R K hm=>Obs.none W⟩
 case round=>
  clear HK
  obtain⟨i,n,A1,k1,c1,t1,lo,O,m,d,os,R2,hi,rfl,rfl,HAl,HFt,HK,HOb⟩:=hrel
  have hi1:(0:Int)≤(i:Int):=by omega
  by_cases hik:i<N
  case neg=>
   obtain rfl:i=N:=by omega
   have hi2:¬(i:Int)<(i:Int):=by omega
   have he:=HFin.out.symm.trans HAl.out
   injection he with h1 h2
   subst h1 h2
   have hfw:oF.length≤1200:=by
    have h:=Ap.all_few (l.take i) Ap.s0
    rw[HAl.out] at h
    have h2:oF.length≤10*(l.take i).length:=h
    rw[List.length_take] at h2
    omega
   have HFw:Hid (Fits otLay tF oF):=zH ⟨fun x hx=>trivial,by show oF.length*72≤_;omega⟩
   clear HAp HFe HS HAl HFin hfw
   go_wp2_with (first|refine wpList_exe (kst HK 1 _ (by rfl) (by rfl) (by rfl)) (by rfl) ?_|(refine wpList_sst HK 0 rfl _ _ rfl rfl rfl rfl ?_;intro _ HK';simp only[List.set] at HK';replace HK:=HK';clear HK'))
   refine ret_sto Tryz.results19 rfl rfl rfl (HK.out.blk 0 rfl) ?_
   unfold IsSt
   exact⟨A1,k1,c1,lo,O,m,d,_,rfl,zH rfl,HK.out.takeL 0,zH fun b W0 W L R K hm hg=>⟨HOb.out b W0 W L R K (fun z hz=>hm z (List.mem_cons_of_mem _ hz)),Sls.own (K.mem (hm _ (List.mem_cons_self ..))) HFw.out⟩⟩
  case pos=>
  have hi2:(i:Int)<(N:Int):=by omega
  have hi3:i<9223372036854775807:=by omega
  obtain⟨x,hx,hxe⟩:=HS.out.get hik
  obtain⟨b,o,rfl,hat⟩:=HS.out.at (Nat.lt_of_le_of_lt (Nat.zero_le _) hik)
  have HX:Hid (∀W,Below w.heap.size w W→∀q v,(evL x)[q]?=some v→W.cell? ⟨b,o+i*16+q,none⟩=some v):=zH (fun W hW=>hat W hW i x hx)
  have hal:=Ap.all_more (s:=Ap.s0) hx
  rw[HAl.out] at hal
  dsimp only at hal
  have hobs:=HOb.out _ _ _ _ _ HK.out (fun z hz=>List.mem_cons_of_mem _ hz)
  have HF3:Hid (Ses.Fit (Ap.apS ⟨n,vs lo,t1⟩ x).t):=zH (Ap.ap_fit (s:=⟨n,vs lo,t1⟩) (obs_float hobs) HFt.out x)
  have hfew:=Ap.ap_few ⟨n,vs lo,t1⟩ x
  have hnb:=(Ap.all_n (l.take i) Ap.s0).2
  rw[HAl.out] at hnb
  have hn9:n≤9223372036854775807:=by
   have h:n≤0+((l.take i).length:Int):=hnb
   rw[List.length_take] at h
   omega
  have hm9:m≤10*i:=by
   have h:=Ap.all_few (l.take i) Ap.s0
   rw[HAl.out] at h
   have h2:os.length≤10*(l.take i).length:=h
   have h3:=(HK.out.own 0 rfl).reads.1
   rw[List.length_take] at h2
   omega
  have HAx:Hid (∀W,Obs W A1 k1 c1 lo→_):=zH fun W ho=>HAp.out x hxe n A1 k1 c1 t1 lo W ho HFt.out hn9
  have HAl3:=zH hal
  have HFw:=zH hfew
  clear hat hx hxe hal hobs hfew hnb hn9 HAl HFt
  generalize Ap.apS ⟨n,vs lo,t1⟩ x=s3 at *
  generalize Ap.apO ⟨n,vs lo,t1⟩ x=os3 at *
  obtain⟨n3,l3,t3⟩:=s3
  dsimp only at *
  go_wp2_with fail
  have HK0:=zH HK.out.drew
  clear HK
  refine wp_region_held_drew (S:=(fun W=>Hid (Kn w.heap.size w W [(g4,33,stA n A1 k1 c1 t1)] []))) (by kernel_rfl) ?_ (fun hHeld=>?_)
  ·(try dsimp only);exact zH (((HK0.out.dropL 1).takeL 1).takeR 0)
  refine wpAnyH_take (i:=0) (oi:=⟨some 16,_,_,_,_,_⟩) (v:=?_) rfl (by kernel_rfl) (by kernel_rfl) (by kernel_rfl) (fun _ _ _ h=>h) (Or.inl ⟨by rfl,?_⟩) (by assumption) ?_
  rotate_left
  ·(intro w hSw;refine Eq.trans (kst hSw 0 _ (by rfl) (by rfl) (by rfl)) ?_;with_reducible rfl)
  try simp only[Act.put,List.setIfInBounds_toArray,List.set_cons_zero,List.set_cons_succ]
  refine wpAnyH_take (i:=1) (oi:=⟨some 17,_,_,_,_,_⟩) (v:=?_) rfl (by kernel_rfl) (by kernel_rfl) (by kernel_rfl) (fun _ _ _ h=>h) (Or.inl ⟨by rfl,?_⟩) (by assumption) ?_
  rotate_left
  ·(intro w hSw;(try dsimp only at hSw);go_simp;try with_reducible rfl)
  try simp only[Act.put,List.setIfInBounds_toArray,List.set_cons_zero,List.set_cons_succ]
  refine wpAnyH_take (i:=2) (oi:=⟨some 18,_,_,_,_,_⟩) (v:=?_) rfl (by kernel_rfl) (by kernel_rfl) (by kernel_rfl) (fun _ _ _ h=>h) (Or.inl ⟨by rfl,?_⟩) (by assumption) ?_
  rotate_left
  ·(intro w hSw;(try dsimp only at hSw);go_simp;try with_reducible rfl)
  try simp only[Act.put,List.setIfInBounds_toArray,List.set_cons_zero,List.set_cons_succ]
  refine wpAnyH_take (i:=3) (oi:=⟨some 19,_,_,_,_,_⟩) (v:=?_) rfl (by kernel_rfl) (by kernel_rfl) (by kernel_rfl) (fun _ _ _ h=>h) (Or.inl ⟨by rfl,?_⟩) (by assumption) ?_
  rotate_left
  ·(intro w hSw;refine Eq.trans (exec_slx evLay (i:=i) _ _ (by rfl) (by rfl) (by rfl) hik) ?_;with_reducible rfl)
  try simp only[Act.put,List.setIfInBounds_toArray,List.set_cons_zero,List.set_cons_succ]
  refine wpAnyH_take (i:=4) (oi:=⟨some 20,_,_,_,_,_⟩) (v:=?_) rfl (by kernel_rfl) (by kernel_rfl) (by kernel_rfl) (fun _ _ _ h=>h) (Or.inl ⟨by rfl,?_⟩) (by assumption) ?_
  rotate_left
  ·(intro w hSw;refine Eq.trans (exec_slv evLay (off:=o+i*16) (x:=x) _ (by rfl) (by rfl) Tryz.underlying39 (HX.out _ hSw.out.b)) ?_;with_reducible rfl)
  try simp only[Act.put,List.setIfInBounds_toArray,List.set_cons_zero,List.set_cons_succ]
  refine wpAnyH_ready (rs:=[5,9]) (by kernel_rfl) (by simp) ?_
  refine AllReadyH.cons (o:=⟨some 21,_,_,_,_,_⟩) rfl (fun K hK=>?_) (AllReadyH.cons (o:=⟨some 7,_,_,_,_,_⟩) rfl (fun K hK=>?_) AllReadyH.nil)
  go_simp
  go_at_call 10
  refine(HAx.out _ (HOb.out _ _ _ _ _ HK0.out (fun z hz=>List.mem_cons_of_mem _ hz))).mono ?_;rintro en w5 ⟨A3,k3,c3,lo3,O3,m3,d3,R3,rfl,HV3,q3,HI3⟩;replace HK0:=zH (HK0.out.join q3);clear q3;simp only[lcA] at HK0;have hs:=zH (((HK0.out.dropL 1).takeL 1).takeR 0)
  refine hK.out _ _ hs (fun hHeld=>?_)
  clear hK K
  try simp only[ap1,ap2,ap3,ap4,ap5]
  refine wpAnyH_take (i:=6) (oi:=⟨some 15,_,_,_,_,_⟩) (v:=?_) rfl (by kernel_rfl) (by kernel_rfl) (by kernel_rfl) (fun _ _ _ h=>h) (Or.inl ⟨by rfl,?_⟩) (by assumption) ?_
  rotate_left
  ·(intro w hSw;(try dsimp only at hSw);go_simp;try with_reducible rfl)
  try simp only[Act.put,List.setIfInBounds_toArray,List.set_cons_zero,List.set_cons_succ]
  refine wpAnyH_take (i:=7) (oi:=⟨some 22,_,_,_,_,_⟩) (v:=?_) rfl (by kernel_rfl) (by kernel_rfl) (by kernel_rfl) (fun _ _ _ h=>h) (Or.inl ⟨by rfl,?_⟩) (by assumption) ?_
  rotate_left
  ·(intro w hSw;(try dsimp only at hSw);go_simp;try with_reducible rfl)
  try simp only[Act.put,List.setIfInBounds_toArray,List.set_cons_zero,List.set_cons_succ]
  refine wpAnyH_take (i:=8) (oi:=⟨some 23,_,_,_,_,_⟩) (v:=?_) rfl (by kernel_rfl) (by kernel_rfl) (by kernel_rfl) (fun _ _ _ h=>h) (Or.inl ⟨by rfl,?_⟩) (by assumption) ?_
  rotate_left
  ·(intro w hSw;(try dsimp only at hSw);go_simp;try with_reducible rfl)
  try simp only[Act.put,List.setIfInBounds_toArray,List.set_cons_zero,List.set_cons_succ]
  refine wpAnyH_ready (rs:=[9]) (by kernel_rfl) (by simp) ?_
  refine AllReadyH.cons (o:=⟨some 7,_,_,_,_,_⟩) rfl (fun K hK=>?_) AllReadyH.nil
  refine step_ast HK0 (by rfl) (by rfl) ?_;intro w7 g7 HK';simp only[lcA,lnA] at HK';replace HK0:=HK';clear HK';have hs:=zH (((HK0.out.dropL 1).takeL 1).takeR 0)
  refine hK.out _ _ hs (fun hHeld=>?_)
  clear hK K
  try simp only[ap1,ap2,ap3,ap4,ap5]
  refine wpAnyH_ready (rs:=[10]) (by kernel_rfl) (by simp) ?_
  refine AllReadyH.cons (o:=⟨none,_,_,_,_,_⟩) rfl (fun K hK=>?_) AllReadyH.nil
  refine step_sst HK0 2 (by rfl) _ _ (by rfl) (by rfl) (by rfl) (by rfl) ?_;intro w8 HK';simp only[List.set] at HK';replace HK0:=HK';clear HK';have hs:=zH (((HK0.out.dropL 1).takeL 1).takeR 0)
  refine hK.out _ _ hs (fun hHeld=>?_)
  clear hK K
  try simp only[ap1,ap2,ap3,ap4,ap5]
  refine wpAnyH_take (i:=11) (oi:=⟨some 8,_,_,_,_,_⟩) (v:=?_) rfl (by kernel_rfl) (by kernel_rfl) (by kernel_rfl) (fun _ _ _ h=>h) (Or.inl ⟨by rfl,?_⟩) (by assumption) ?_
  rotate_left
  ·(intro w hSw;(try dsimp only at hSw);go_simp;try with_reducible rfl)
  try simp only[Act.put,List.setIfInBounds_toArray,List.set_cons_zero,List.set_cons_succ]
  refine wpAnyH_done (by kernel_rfl) ?_ _
  rotate_left
  refine step_ast HK0 (by rfl) (by rfl) ?_;intro w7 g7 HK';simp only[lcA,lnA] at HK';replace HK0:=HK';clear HK';have hs:=zH (((HK0.out.dropL 1).takeL 1).takeR 0)
  refine hK.out _ _ hs (fun hHeld=>?_)
  clear hK K
  try simp only[ap1,ap2,ap3,ap4,ap5]
  refine wpAnyH_ready (rs:=[5]) (by kernel_rfl) (by simp) ?_
  refine AllReadyH.cons (o:=⟨some 21,_,_,_,_,_⟩) rfl (fun K hK=>?_) AllReadyH.nil
  go_simp
  go_at_call 10
  refine(HAx.out _ (HOb.out _ _ _ _ _ HK0.out (fun z hz=>List.mem_cons_of_mem _ hz))).mono ?_;rintro en w5 ⟨A3,k3,c3,lo3,O3,m3,d3,R3,rfl,HV3,q3,HI3⟩;replace HK0:=zH (HK0.out.join q3);clear q3;simp only[lcA] at HK0;have hs:=zH (((HK0.out.dropL 1).takeL 1).takeR 0)
  refine hK.out _ _ hs (fun hHeld=>?_)
  clear hK K
  try simp only[ap1,ap2,ap3,ap4,ap5]
  refine wpAnyH_take (i:=6) (oi:=⟨some 15,_,_,_,_,_⟩) (v:=?_) rfl (by kernel_rfl) (by kernel_rfl) (by kernel_rfl) (fun _ _ _ h=>h) (Or.inl ⟨by rfl,?_⟩) (by assumption) ?_
  rotate_left
  ·(intro w hSw;(try dsimp only at hSw);go_simp;try with_reducible rfl)
  try simp only[Act.put,List.setIfInBounds_toArray,List.set_cons_zero,List.set_cons_succ]
  refine wpAnyH_take (i:=7) (oi:=⟨some 22,_,_,_,_,_⟩) (v:=?_) rfl (by kernel_rfl) (by kernel_rfl) (by kernel_rfl) (fun _ _ _ h=>h) (Or.inl ⟨by rfl,?_⟩) (by assumption) ?_
  rotate_left
  ·(intro w hSw;(try dsimp only at hSw);go_simp;try with_reducible rfl)
  try simp only[Act.put,List.setIfInBounds_toArray,List.set_cons_zero,List.set_cons_succ]
  refine wpAnyH_take (i:=8) (oi:=⟨some 23,_,_,_,_,_⟩) (v:=?_) rfl (by kernel_rfl) (by kernel_rfl) (by kernel_rfl) (fun _ _ _ h=>h) (Or.inl ⟨by rfl,?_⟩) (by assumption) ?_
  rotate_left
  ·(intro w hSw;(try dsimp only at hSw);go_simp;try with_reducible rfl)
  try simp only[Act.put,List.setIfInBounds_toArray,List.set_cons_zero,List.set_cons_succ]
  refine wpAnyH_ready (rs:=[10]) (by kernel_rfl) (by simp) ?_
  refine AllReadyH.cons (o:=⟨none,_,_,_,_,_⟩) rfl (fun K hK=>?_) AllReadyH.nil
  refine step_sst HK0 2 (by rfl) _ _ (by rfl) (by rfl) (by rfl) (by rfl) ?_;intro w8 HK';simp only[List.set] at HK';replace HK0:=HK';clear HK';have hs:=zH (((HK0.out.dropL 1).takeL 1).takeR 0)
  refine hK.out _ _ hs (fun hHeld=>?_)
  clear hK K
  try simp only[ap1,ap2,ap3,ap4,ap5]
  refine wpAnyH_take (i:=11) (oi:=⟨some 8,_,_,_,_,_⟩) (v:=?_) rfl (by kernel_rfl) (by kernel_rfl) (by kernel_rfl) (fun _ _ _ h=>h) (Or.inl ⟨by rfl,?_⟩) (by assumption) ?_
  rotate_left
  ·(intro w hSw;(try dsimp only at hSw);go_simp;try with_reducible rfl)
  try simp only[Act.put,List.setIfInBounds_toArray,List.set_cons_zero,List.set_cons_succ]
  refine wpAnyH_done (by kernel_rfl) ?_ _
  rotate_left
  all_goals
   have HK:=HK0
   clear HK0 hHeld
   have hsl:=(HI3.out _ _ _ _ _ HK.out (fun z hz=>List.mem_cons_of_mem _ (List.mem_append_right _ hz)) trivial).2
   have HLn:Hid (os3.length=m3):=zH hsl.len
   have HOs:Hid (os.length=m):=zH (HK.out.own 0 rfl).reads.1.symm
   have hm3:m3≤10:=by rw[← HLn.out];exact HFw.out
   have HN2:Hid ((os++os3).length=m+m3):=zH (by rw[List.length_append,HLn.out,HOs.out])
   have HL2:=grow_ok (La:=otLay) HN2 (by show _*72≤_;omega) (by omega)
   clear hsl
   go_wp2_with (first|refine wpList_exe (kst HK 2 _ (by rfl) (by rfl) (by rfl)) (by rfl) ?_|(refine wpList_sst HK 1 rfl _ _ rfl rfl rfl rfl ?_;intro _ HK';simp only[List.set] at HK';replace HK:=HK';clear HK')|(at_builtin;have HR2:=zH (let h:=(HI3.out _ _ _ _ _ HK.out (fun z hz=>List.mem_cons_of_mem _ (List.mem_append_right _ hz)) trivial).2;And.intro h.rd h.nl);refine wpList_kmore HK otLay 0 rfl _ _ rfl rfl rfl os3 rfl HLn.out.symm HR2 HL2 (N:=m+m3) HN2 ?_;intro A9 c9 _ HK';simp only[List.set] at HK';replace HK:=HK';clear HK' HR2)|refine wpList_exe (exec_add1 (j:=i) _ (by rfl) (by rfl) hi3) (by rfl) ?_)
   exact⟨⟨i+1,n3,A3,k3,c3,t3,lo3,A9,_,c9,os++os3,R2++R3,hik,rfl,rfl,zH (by rw[HV3.out];exact HAl3.out),HF3,zH (HK.out.takeL 2),zH fun b W0 W L R K hm=>(HI3.out b W0 W L R K (fun z hz=>hm z (List.mem_append_right _ hz)) trivial).1⟩,by simp[intOf];omega⟩
end
section
open Go.RowKit
theorem apawake_any(w:World):Calls Tryz.prog 12 #[] w (IsB true w):=by
 have HK:=zH (Kn.start w)
 have HEv:=zH ev_any
 have hok:=Ap.all_ok Ap.awl Ap.ok_0
 have hn:=Ap.aw_n
 have ho:=Ap.aw_o
 have hft:=Ap.aw_f
 have h4:=Ap.aw_4
 have h5:=Ap.aw_5
 have HAl:Hid (∀(A:Option Addr) (c:Nat) W,Sls evLay eF W A 7 c Ap.awl→Calls Tryz.prog 19 #[.slice A 7 c] W (IsSt (fun _=>True) (Ap.all Ap.s0 Ap.awl).1 (Ap.all Ap.s0 Ap.awl).2 W)):=zH fun A c W h=>all_any A c 7 Ap.awl W h (by decide)
 have HFe:Hid (Fits evLay eF Ap.awl):=zH ⟨by
  intro x hx
  unfold Ap.awl at hx
  simp only[List.mem_cons,List.not_mem_nil,or_false] at hx
  unfold eF
  rcases hx with rfl|rfl|rfl|rfl|rfl|rfl|rfl<;>decide,by show 7*160≤_;decide⟩
 unfold IsSt at HAl
 unfold IsB
 generalize (Ap.all Ap.s0 Ap.awl).1=s at *
 generalize (Ap.all Ap.s0 Ap.awl).2=os at *
 obtain⟨n,l,t⟩:=s
 dsimp only at *
 subst hn
 have HOk:=zH hok
 have H4:=zH h4
 have H5:=zH h5
 have HO:=zH ho
 clear hok h4 h5 ho
 go_enter Tryz.func12,Tryz.ntmps12
 go_wp2_with fail
 refine(HEv.out 0 1 0 1 ⟨#[]⟩ 0 _).mono ?_;rintro e w1 ⟨rfl,b1⟩;replace HK:=hkC HK b1;clear b1;go_wp2_with fail
 refine(HEv.out 0 1 1 4 Ap.nl 3 _).mono ?_;rintro e w1 ⟨rfl,b1⟩;replace HK:=hkC HK b1;clear b1;go_wp2_with fail
 refine(HEv.out 0 1 2 12 Ap.nl 0 _).mono ?_;rintro e w1 ⟨rfl,b1⟩;replace HK:=hkC HK b1;clear b1;go_wp2_with fail
 refine(HEv.out 1 1 0 1 ⟨#[]⟩ 0 _).mono ?_;rintro e w1 ⟨rfl,b1⟩;replace HK:=hkC HK b1;clear b1;go_wp2_with fail
 refine(HEv.out 1 1 1 12 Ap.nl 0 _).mono ?_;rintro e w1 ⟨rfl,b1⟩;replace HK:=hkC HK b1;clear b1;go_wp2_with fail
 refine(HEv.out 0 1 0 18 ⟨#[]⟩ 0 _).mono ?_;rintro e w1 ⟨rfl,b1⟩;replace HK:=hkC HK b1;clear b1;go_wp2_with fail
 refine(HEv.out 0 1 3 12 Ap.nl 0 _).mono ?_;rintro e w1 ⟨rfl,b1⟩;replace HK:=hkC HK b1;clear b1
 go_wp2_with (first|(refine wpList_mk7 (p1:=Ap.evM 0 1 0 1 ⟨#[]⟩ 0) (p2:=Ap.evM 0 1 1 4 Ap.nl 3) (p3:=Ap.evM 0 1 2 12 Ap.nl 0) (p4:=Ap.evM 1 1 0 1 ⟨#[]⟩ 0) (p5:=Ap.evM 1 1 1 12 Ap.nl 0) (p6:=Ap.evM 0 1 0 18 ⟨#[]⟩ 0) (p7:=Ap.evM 0 1 3 12 Ap.nl 0) HK rfl _ _ _ _ _ _ _ rfl rfl rfl rfl rfl rfl rfl rfl ?_;intro _ g7 HK';simp only[lnA] at HK';replace HK:=HK';clear HK'))
 refine(HAl.out _ _ _ (Sls.own (HK.out.own 0 rfl) HFe.out)).mono ?_;rintro e w1 ⟨A2,k2,c2,lo,O2,m2,d2,R2,rfl,HV2,q2,HI2⟩
 replace HK:=zH (HK.out.join q2)
 clear q2 HEv HAl HFe
 go_upto_region 3 with (first|(refine wpList_ast HK rfl rfl ?_;intro _ g9 HK';simp only[lcA,lnA] at HK';replace HK:=HK';clear HK')|(refine wpList_sst HK 0 rfl _ _ rfl rfl rfl rfl ?_;intro _ HK';simp only[List.set] at HK';replace HK:=HK';clear HK'))
 have hsl:=(HI2.out _ _ _ _ _ HK.out (fun z hz=>List.mem_cons_of_mem _ hz) trivial).2
 obtain rfl:m2=6:=hsl.len.symm.trans HO.out
 obtain⟨b,o,rfl,_⟩:=hsl.at (by decide)
 have c4:World.cell? _ ⟨b,o+32,none⟩=some (.int .i64 1):=hsl.cells (i:=4) H4.out 0 _ rfl
 have c6:World.cell? _ ⟨b,o+34,none⟩=some (.int .i64 1):=hsl.cells (i:=4) H4.out 2 _ rfl
 have c5:World.cell? _ ⟨b,o+43,none⟩=some (.int .i64 14):=hsl.cells (i:=5) H5.out 3 _ rfl
 have HRt:=zH (fun W (h:Obs W A2 k2 c2 lo)=>apright_any 7 A2 k2 c2 t lo W h hft)
 have HY:Hid (decide (Ap.Ok ⟨7,vs lo,t⟩)=true):=zH (by rw[HV2.out];exact decide_eq_true HOk.out)
 unfold IsB at HRt
 rw[HY.out] at HRt
 clear hsl hft
 go_wp2_with (first|refine wpList_exe (kst_n HK 0 _ (by rfl) (by rfl) (by rfl)) (by rfl) ?_|refine wpList_exe (kst HK 0 _ (by rfl) (by rfl) (by rfl)) (by rfl) ?_)
 refine(HRt.out _ (HI2.out _ _ _ _ _ HK.out (fun z hz=>List.mem_cons_of_mem _ hz) trivial).1).mono ?_;rintro e w3 ⟨rfl,b1⟩
 replace HK:=hkC HK b1;clear b1
 go_wp2_with fail
 go_ret
 exact⟨rfl,HK.out.b⟩
end
section
open Go.RowKit
theorem Sl.cells{w:World}{b o n c:Nat}{l:List Dct.Pr}(h:Sl w (some ⟨b,o,Option.none⟩) n c l){i:Nat}{x:Dct.Pr}(hx:l[i]?=some x):∀j v,(prL x)[j]?=some v→w.cell? ⟨b,o+i*5+j,Option.none⟩=some v:=by
 have hi:=(List.getElem?_eq_some_iff.1 hx).1
 obtain⟨b',o',e,hat⟩:=h.at (by rw[← h.len];omega)
 injection e with e
 injection e with e1 e2
 subst e1 e2
 exact hat w (Below.refl _ w) i x hx
theorem exec_pne{w:World}{o:Oper}{a:Act}{x y:Dct.Pr}{b:Bool}(p q:Operand)(ho:o.op=.binOp .neq 85 p q 85)(hx:a.eval p=.agg (prA x))(hy:a.eval q=.agg (prA y))(hb:(!decide (x=y))=b):
  (execOp a.eval o).run Tryz.prog w=.ok (.value (.bool b)) w:=by
 have e:decide (x=y)=(decide (x.key.toList=y.key.toList)&&(decide (x.val.k=y.val.k)&&decide (x.val.n=y.val.n)&&decide ((x.val.f:Int)=(y.val.f:Int))&&decide (x.val.s.toList=y.val.s.toList))):=by
  rw[← veq_all]
  obtain⟨k,v⟩:=x
  obtain⟨k',v'⟩:=y
  by_cases h1:k=k'
  ·by_cases h2:v=v'<;>simp[h1,h2]
  ·have h3:¬k.toList=k'.toList:=fun h=>h1 (Dct.toList_inj h)
   simp[h1,h3]
 rw[e] at hb
 subst hb
 unfold prA prC at hx hy
 unfold execOp
 simp only[ho,hx,hy]
 go_simp
 by_cases h0:x.key.toList=y.key.toList<;>by_cases h1:x.val.k=y.val.k<;>by_cases h2:x.val.n=y.val.n<;>by_cases h3:(x.val.f:Int)=(y.val.f:Int)<;>by_cases h4:x.val.s.toList=y.val.s.toList<;>simp[h0,h1,h2,h3,h4]
theorem same_ext{a b:List Dct.Pr}{n:Nat}(ha:a.length=n)(hb:b.length=n):(∀i x y,i<n→a[i]?=some x→b[i]?=some y→¬x=y→decide (a=b)=false)∧((∀i,i<n→a[i]?=b[i]?)→decide (a=b)=true):=by
 refine⟨fun i x y hi hx hy hne=>decide_eq_false fun h=>?_,fun h=>decide_eq_true (List.ext_getElem? fun i=>?_)⟩
 ·subst h
  rw[hx] at hy
  injection hy with hy
  exact hne hy
 ·by_cases hi:i<n
  ·exact h i hi
  ·rw[List.getElem?_eq_none (by omega),List.getElem?_eq_none (by omega)]
theorem same_any(A B:Option Addr)(c n d m:Nat)(a b:List Dct.Pr)(w:World)(hs:Sl w A n c a)(ht:Sl w B m d b):
  Calls Tryz.prog 41 #[.slice A n c,.slice B m d] w (IsB (decide (a=b)) w):=by
 have HK:=zH (Kn.start w)
 by_cases hnm:n=m
 case neg=>
  have hd:decide (a=b)=false:=decide_eq_false fun h=>hnm (by rw[← hs.len,← ht.len,h])
  rw[hd]
  have hnm2:((n:Int) != (m:Int))=true:=by simp;omega
  clear hs ht hd
  go_enter Tryz.func41,Tryz.ntmps41
  go_wp2_with fail
  go_ret
  exact⟨rfl,HK.out.b⟩
 case pos=>
 subst hnm
 obtain⟨hno,hyes⟩:=same_ext hs.len ht.len
 have HNo:=zH hno
 have HYes:=zH hyes
 have HS:=zH hs
 have HT:=zH ht
 have HG:Hid (∀k,k<n→(∃x,a[k]?=some x)∧∃y,b[k]?=some y):=zH fun k hk=>⟨Lay.get_of (l:=a) (k:=k) (by rw[hs.len];exact hk),Lay.get_of (l:=b) (k:=k) (by rw[ht.len];exact hk)⟩
 have hn63:n<9223372036854775807:=Nat.lt_of_le_of_lt hs.big (by decide)
 clear hs ht hno hyes
 generalize decide (a=b)=r at *
 have hnm2:((n:Int) != (n:Int))=false:=by simp
 go_enter Tryz.func41,Tryz.ntmps41
 go_wp2_with fail
 go_loopw [5] (fun vi wr=>∃k:Nat,k≤n∧vi=.int .i64 k∧Hid (∀i,i<k→a[i]?=b[i]?)∧Hid (Kn w.heap.size w wr [] [])) (fun vi _=>n-(intOf vi).toNat)
 case atStart=>exact⟨0,Nat.zero_le _,rfl,zH (fun i hi=>by omega),HK⟩
 case round=>
  clear HK
  obtain⟨k,hk,rfl,HE,HK⟩:=hrel
  have hk1:(0:Int)≤(k:Int):=by omega
  by_cases hlt:k<n
  ·have hk2:(k:Int)<(n:Int):=by omega
   have hk3:k<9223372036854775807:=by omega
   obtain⟨⟨x,hx⟩,⟨y,hy⟩⟩:=HG.out k hlt
   obtain⟨b1,o1,rfl,hat1⟩:=HS.out.at (Nat.lt_of_le_of_lt (Nat.zero_le _) hlt)
   obtain⟨b2,o2,rfl,hat2⟩:=HT.out.at (Nat.lt_of_le_of_lt (Nat.zero_le _) hlt)
   have HX:=zH (fun W hW=>hat1 W hW k x hx)
   have HY:=zH (fun W hW=>hat2 W hW k y hy)
   have HNx:=zH (HNo.out k x y hlt hx hy)
   have HEx:Hid (a[k]?=some x∧b[k]?=some y):=zH ⟨hx,hy⟩
   clear hat1 hat2 hx hy HNo HG
   go_wp2_with fail
   by_cases he:x=y
   ·have hb:(!decide (x=y))=false:=by rw[decide_eq_true he];rfl
    refine wp_region_held_drew (S:=(fun W=>Hid (Kn w.heap.size w W [] []))) (by kernel_rfl) ?_ (fun hHeld=>?_)
    ·(try dsimp only);exact zH HK.out.drew
    refine wpAnyH_take (i:=0) (oi:=⟨some 17,_,_,_,_,_⟩) (v:=?_) rfl (by kernel_rfl) (by kernel_rfl) (by kernel_rfl) (fun _ _ _ h=>h) (Or.inl ⟨by rfl,?_⟩) (by assumption) ?_
    rotate_left
    ·(intro w hSw;(try dsimp only at hSw);go_simp;try with_reducible rfl)
    try simp only[Act.put,List.setIfInBounds_toArray,List.set_cons_zero,List.set_cons_succ]
    refine wpAnyH_take (i:=1) (oi:=⟨some 18,_,_,_,_,_⟩) (v:=?_) rfl (by kernel_rfl) (by kernel_rfl) (by kernel_rfl) (fun _ _ _ h=>h) (Or.inl ⟨by rfl,?_⟩) (by assumption) ?_
    rotate_left
    ·(intro w hSw;(try dsimp only at hSw);go_simp;try with_reducible rfl)
    try simp only[Act.put,List.setIfInBounds_toArray,List.set_cons_zero,List.set_cons_succ]
    refine wpAnyH_take (i:=2) (oi:=⟨some 19,_,_,_,_,_⟩) (v:=?_) rfl (by kernel_rfl) (by kernel_rfl) (by kernel_rfl) (fun _ _ _ h=>h) (Or.inl ⟨by rfl,?_⟩) (by assumption) ?_
    rotate_left
    ·(intro w hSw;refine Eq.trans (exec_ix (i:=k) _ _ (by rfl) (by rfl) (by rfl) hlt) ?_;with_reducible rfl)
    try simp only[Act.put,List.setIfInBounds_toArray,List.set_cons_zero,List.set_cons_succ]
    refine wpAnyH_take (i:=3) (oi:=⟨some 20,_,_,_,_,_⟩) (v:=?_) rfl (by kernel_rfl) (by kernel_rfl) (by kernel_rfl) (fun _ _ _ h=>h) (Or.inl ⟨by rfl,?_⟩) (by assumption) ?_
    rotate_left
    ·(intro w hSw;refine Eq.trans (exec_lpr (x:=x) (off:=o1+k*5) _ (by rfl) (by rfl) (HX.out _ hSw.out.b)) ?_;with_reducible rfl)
    try simp only[Act.put,List.setIfInBounds_toArray,List.set_cons_zero,List.set_cons_succ]
    refine wpAnyH_take (i:=4) (oi:=⟨some 21,_,_,_,_,_⟩) (v:=?_) rfl (by kernel_rfl) (by kernel_rfl) (by kernel_rfl) (fun _ _ _ h=>h) (Or.inl ⟨by rfl,?_⟩) (by assumption) ?_
    rotate_left
    ·(intro w hSw;(try dsimp only at hSw);go_simp;try with_reducible rfl)
    try simp only[Act.put,List.setIfInBounds_toArray,List.set_cons_zero,List.set_cons_succ]
    refine wpAnyH_take (i:=5) (oi:=⟨some 22,_,_,_,_,_⟩) (v:=?_) rfl (by kernel_rfl) (by kernel_rfl) (by kernel_rfl) (fun _ _ _ h=>h) (Or.inl ⟨by rfl,?_⟩) (by assumption) ?_
    rotate_left
    ·(intro w hSw;(try dsimp only at hSw);go_simp;try with_reducible rfl)
    try simp only[Act.put,List.setIfInBounds_toArray,List.set_cons_zero,List.set_cons_succ]
    refine wpAnyH_take (i:=6) (oi:=⟨some 23,_,_,_,_,_⟩) (v:=?_) rfl (by kernel_rfl) (by kernel_rfl) (by kernel_rfl) (fun _ _ _ h=>h) (Or.inl ⟨by rfl,?_⟩) (by assumption) ?_
    rotate_left
    ·(intro w hSw;refine Eq.trans (exec_ix (i:=k) _ _ (by rfl) (by rfl) (by rfl) hlt) ?_;with_reducible rfl)
    try simp only[Act.put,List.setIfInBounds_toArray,List.set_cons_zero,List.set_cons_succ]
    refine wpAnyH_take (i:=7) (oi:=⟨some 24,_,_,_,_,_⟩) (v:=?_) rfl (by kernel_rfl) (by kernel_rfl) (by kernel_rfl) (fun _ _ _ h=>h) (Or.inl ⟨by rfl,?_⟩) (by assumption) ?_
    rotate_left
    ·(intro w hSw;refine Eq.trans (exec_lpr (x:=y) (off:=o2+k*5) _ (by rfl) (by rfl) (HY.out _ hSw.out.b)) ?_;with_reducible rfl)
    try simp only[Act.put,List.setIfInBounds_toArray,List.set_cons_zero,List.set_cons_succ]
    refine wpAnyH_take (i:=8) (oi:=⟨some 25,_,_,_,_,_⟩) (v:=?_) rfl (by kernel_rfl) (by kernel_rfl) (by kernel_rfl) (fun _ _ _ h=>h) (Or.inl ⟨by rfl,?_⟩) (by assumption) ?_
    rotate_left
    ·(intro w hSw;refine Eq.trans (exec_pne (x:=x) (y:=y) _ _ (by rfl) (by rfl) (by rfl) hb) ?_;with_reducible rfl)
    try simp only[Act.put,List.setIfInBounds_toArray,List.set_cons_zero,List.set_cons_succ]
    refine wpAnyH_done (by kernel_rfl) ?_ _
    go_wp2_with (first|refine wpList_of_exec (by rfl) (exec_add1 (j:=k) _ (by rfl) (by rfl) hk3) ?_)
    exact⟨⟨k+1,hlt,rfl,zH (fun i hi=>by
     by_cases hik:i=k
     ·subst hik;rw[HEx.out.1,HEx.out.2,he]
     ·exact HE.out i (by omega)),hHeld⟩,by simp[intOf];omega⟩
   ·have hb:(!decide (x=y))=true:=by rw[decide_eq_false he];rfl
    have HR:=zH (HNx.out he)
    refine wp_region_held_drew (S:=(fun W=>Hid (Kn w.heap.size w W [] []))) (by kernel_rfl) ?_ (fun hHeld=>?_)
    ·(try dsimp only);exact zH HK.out.drew
    refine wpAnyH_take (i:=0) (oi:=⟨some 17,_,_,_,_,_⟩) (v:=?_) rfl (by kernel_rfl) (by kernel_rfl) (by kernel_rfl) (fun _ _ _ h=>h) (Or.inl ⟨by rfl,?_⟩) (by assumption) ?_
    rotate_left
    ·(intro w hSw;(try dsimp only at hSw);go_simp;try with_reducible rfl)
    try simp only[Act.put,List.setIfInBounds_toArray,List.set_cons_zero,List.set_cons_succ]
    refine wpAnyH_take (i:=1) (oi:=⟨some 18,_,_,_,_,_⟩) (v:=?_) rfl (by kernel_rfl) (by kernel_rfl) (by kernel_rfl) (fun _ _ _ h=>h) (Or.inl ⟨by rfl,?_⟩) (by assumption) ?_
    rotate_left
    ·(intro w hSw;(try dsimp only at hSw);go_simp;try with_reducible rfl)
    try simp only[Act.put,List.setIfInBounds_toArray,List.set_cons_zero,List.set_cons_succ]
    refine wpAnyH_take (i:=2) (oi:=⟨some 19,_,_,_,_,_⟩) (v:=?_) rfl (by kernel_rfl) (by kernel_rfl) (by kernel_rfl) (fun _ _ _ h=>h) (Or.inl ⟨by rfl,?_⟩) (by assumption) ?_
    rotate_left
    ·(intro w hSw;refine Eq.trans (exec_ix (i:=k) _ _ (by rfl) (by rfl) (by rfl) hlt) ?_;with_reducible rfl)
    try simp only[Act.put,List.setIfInBounds_toArray,List.set_cons_zero,List.set_cons_succ]
    refine wpAnyH_take (i:=3) (oi:=⟨some 20,_,_,_,_,_⟩) (v:=?_) rfl (by kernel_rfl) (by kernel_rfl) (by kernel_rfl) (fun _ _ _ h=>h) (Or.inl ⟨by rfl,?_⟩) (by assumption) ?_
    rotate_left
    ·(intro w hSw;refine Eq.trans (exec_lpr (x:=x) (off:=o1+k*5) _ (by rfl) (by rfl) (HX.out _ hSw.out.b)) ?_;with_reducible rfl)
    try simp only[Act.put,List.setIfInBounds_toArray,List.set_cons_zero,List.set_cons_succ]
    refine wpAnyH_take (i:=4) (oi:=⟨some 21,_,_,_,_,_⟩) (v:=?_) rfl (by kernel_rfl) (by kernel_rfl) (by kernel_rfl) (fun _ _ _ h=>h) (Or.inl ⟨by rfl,?_⟩) (by assumption) ?_
    rotate_left
    ·(intro w hSw;(try dsimp only at hSw);go_simp;try with_reducible rfl)
    try simp only[Act.put,List.setIfInBounds_toArray,List.set_cons_zero,List.set_cons_succ]
    refine wpAnyH_take (i:=5) (oi:=⟨some 22,_,_,_,_,_⟩) (v:=?_) rfl (by kernel_rfl) (by kernel_rfl) (by kernel_rfl) (fun _ _ _ h=>h) (Or.inl ⟨by rfl,?_⟩) (by assumption) ?_
    rotate_left
    ·(intro w hSw;(try dsimp only at hSw);go_simp;try with_reducible rfl)
    try simp only[Act.put,List.setIfInBounds_toArray,List.set_cons_zero,List.set_cons_succ]
    refine wpAnyH_take (i:=6) (oi:=⟨some 23,_,_,_,_,_⟩) (v:=?_) rfl (by kernel_rfl) (by kernel_rfl) (by kernel_rfl) (fun _ _ _ h=>h) (Or.inl ⟨by rfl,?_⟩) (by assumption) ?_
    rotate_left
    ·(intro w hSw;refine Eq.trans (exec_ix (i:=k) _ _ (by rfl) (by rfl) (by rfl) hlt) ?_;with_reducible rfl)
    try simp only[Act.put,List.setIfInBounds_toArray,List.set_cons_zero,List.set_cons_succ]
    refine wpAnyH_take (i:=7) (oi:=⟨some 24,_,_,_,_,_⟩) (v:=?_) rfl (by kernel_rfl) (by kernel_rfl) (by kernel_rfl) (fun _ _ _ h=>h) (Or.inl ⟨by rfl,?_⟩) (by assumption) ?_
    rotate_left
    ·(intro w hSw;refine Eq.trans (exec_lpr (x:=y) (off:=o2+k*5) _ (by rfl) (by rfl) (HY.out _ hSw.out.b)) ?_;with_reducible rfl)
    try simp only[Act.put,List.setIfInBounds_toArray,List.set_cons_zero,List.set_cons_succ]
    refine wpAnyH_take (i:=8) (oi:=⟨some 25,_,_,_,_,_⟩) (v:=?_) rfl (by kernel_rfl) (by kernel_rfl) (by kernel_rfl) (fun _ _ _ h=>h) (Or.inl ⟨by rfl,?_⟩) (by assumption) ?_
    rotate_left
    ·(intro w hSw;refine Eq.trans (exec_pne (x:=x) (y:=y) _ _ (by rfl) (by rfl) (by rfl) hb) ?_;with_reducible rfl)
    try simp only[Act.put,List.setIfInBounds_toArray,List.set_cons_zero,List.set_cons_succ]
    refine wpAnyH_done (by kernel_rfl) ?_ _
    go_wp2_with fail
    go_ret
    exact⟨by rw[HR.out]<;>rfl,hHeld.out.b⟩
  ·obtain rfl:k=n:=by omega
   have HR:=zH (HYes.out HE.out)
   go_wp2_with fail
   go_ret
   exact⟨by rw[HR.out]<;>rfl,HK.out.b⟩
end
end Go.Proofs.YtddpmlcpfmmbeaaGreat
