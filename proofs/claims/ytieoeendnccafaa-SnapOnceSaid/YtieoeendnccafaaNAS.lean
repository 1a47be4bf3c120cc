/- What snap's items returns: a state's items. No condition but those named. -/
import Derived.Test.YtieoeendnccafaaNTK
import Derived.Test.YtieoeendnccafaaNAR
set_option linter.unusedSimpArgs false
set_option linter.unusedVariables false
set_option maxRecDepth 100000
set_option maxHeartbeats 25600000
namespace Go.Proofs.Ytieoeendnccafaa
section
open Go.RowKit
def Snp.ss(z:Snp.Its)(t:Ses.T):Nat→Snp.Its
 | 0=>z
 | k+1=>Snp.ss z t k++Snp.seI (t.get k)
theorem Snp.ss_all(z:Snp.Its)(t:Ses.T):Snp.ss z t 5=z++Snp.tbI t:=by
 show((((z++Snp.seI (t.get (0:Nat)))++Snp.seI (t.get (1:Nat)))++Snp.seI (t.get (2:Nat)))++Snp.seI (t.get (3:Nat)))++Snp.seI (t.get (4:Nat))=_
 unfold Snp.tbI
 simp only[List.append_assoc]
 rfl
theorem Snp.seI_len(s:Ses.S):(Snp.seI s).length≤7:=by
 have:=nit_len s.p.v
 unfold Snp.seI
 rw[List.length_append]
 show 5+_≤_
 omega
theorem Snp.obs_len{w:World}{A:Option Addr}{k c:Nat}{lo:List Oh}(hs:Obs w A k c lo)(hk:k≤8)(hsh:∀x∈lo,Short x):(Snp.many (fun x:Oh=>Snp.obI x.v) lo).length≤561:=by
 have h1:=Snp.many_le (fun x:Oh=>Snp.obI x.v) 70 (l:=lo) fun x hx=>Snp.obI_len (hs.i x hx) (hsh x hx)
 have:=hs.len
 omega
theorem Snp.many_vs(lo:List Oh):Snp.many (fun x:Oh=>Snp.obI x.v) lo=Snp.many Snp.obI (vs lo):=by
 unfold Snp.many vs
 rw[List.length_map,List.flatMap_map]
theorem nitems_any(n:Int)(A:Option Addr)(k c:Nat)(t:Ses.T)(lo:List Oh)(w:World)(hs:Obs w A k c lo)(hf:Ses.Fit t)(hk:k≤8)(hsh:∀x∈lo,Short x):
  Calls Try.prog 13 #[.agg (stA n A k c t)] w (IsLg itemLay (Snp.stI ⟨n,vs lo,t⟩) w):=by
 have HMo:Hid (∀W,Below w.heap.size w W→Calls Try.prog 30 #[.slice A k c,.func (.func 31) #[] #[]] W (IsLg itemLay (Snp.many Snp.obI (vs lo)) W)):=zH fun W hW=>by
  rw[← Snp.many_vs]
  exact many_ob_any (fun x:Oh=>Snp.obI x.v) _ _ _ _ W (hs.s.later hW) hk (fun x hx V hV=>nob_any x V ((hs.i x hx).later (hW.trans (hV.mono hW.size))) (hsh x hx)) fun x hx=>Snp.obI_len (hs.i x hx) (hsh x hx)
 have hlo:=Snp.obs_len hs hk hsh
 rw[Snp.many_vs] at hlo
 have HSe:Hid (∀(i:Nat) (W:World),i<5→Calls Try.prog 32 #[.agg (seA (t.get i))] W (IsLg itemLay (Snp.seI (t.get i)) W)):=zH fun i W hi=>nse_any (t.get i) W (hf i ⟨by omega,by omega⟩)
 have HAll:Hid (Snp.stI ⟨n,vs lo,t⟩=Snp.ss (Snp.n1 n::Snp.many Snp.obI (vs lo)) t 5):=zH (by rw[Snp.ss_all];rfl)
 have HZ:Hid (Snp.ss ([Snp.n1 n]++Snp.many Snp.obI (vs lo)) t 0=[Snp.n1 n]++Snp.many Snp.obI (vs lo)):=zH rfl
 have HMore:Hid (∀k,Snp.ss ([Snp.n1 n]++Snp.many Snp.obI (vs lo)) t (k+1)=Snp.ss ([Snp.n1 n]++Snp.many Snp.obI (vs lo)) t k++Snp.seI (t.get k)):=zH fun k=>rfl
 have HNm:=zH nnum_any
 have HN1:Hid (([Snp.n1 n]++Snp.many Snp.obI (vs lo)).length=1+(Snp.many Snp.obI (vs lo)).length):=zH (by rw[List.length_append];rfl)
 have HL1:=grow_ok (La:=itemLay) HN1 (by show(1+(Snp.many Snp.obI (vs lo)).length)*32≤_;omega) (by omega)
 have HM0:Hid (1+(Snp.many Snp.obI (vs lo)).length≤562+0*7):=zH (by omega)
 have HK:=kn1 w 33 (stA n A k c t)
 unfold IsI at HNm
 unfold IsLg at HMo HSe ⊢
 rw[HAll.out]
 clear HAll hlo hs hf hsh
 change Calls _ _ _ _ (fun e w'=>∃A n_1 c,e=.returned (.slice A n_1 c)∧itemLay.Own w.heap.size w' (.slice A n_1 c) (Snp.ss ([Snp.n1 n]++Snp.many Snp.obI (vs lo)) t 5)∧Below w.heap.size w w')
 generalize Snp.many Snp.obI (vs lo)=lb at *
 generalize Snp.ss ([Snp.n1 n]++lb) t=M at *
 go_enter Try.func13,Try.ntmps13
 go_wp2_with fail
 have HK0:=zH HK.out.drew
 refine wp_region_held_drew (S:=(fun W=>Hid (Kn w.heap.size w W [(w.heap.size,33,stA n A k c t)] []))) (by kernel_rfl) ?_ (fun hHeld=>?_)
 ·(try dsimp only);exact zH HK.out.drew
 refine wpAnyH_take (i:=0) (oi:=⟨some 6,_,_,_,_,_⟩) (v:=?_) rfl (by kernel_rfl) (by kernel_rfl) (by kernel_rfl) (fun _ _ _ h=>h) (Or.inl ⟨by rfl,?_⟩) (by assumption) ?_
 rotate_left
 ·(intro w hSw;(try dsimp only at hSw);go_simp;try with_reducible rfl)
 try simp only[Act.put,List.setIfInBounds_toArray,List.set_cons_zero,List.set_cons_succ]
 refine wpAnyH_take (i:=1) (oi:=⟨some 7,_,_,_,_,_⟩) (v:=?_) rfl (by kernel_rfl) (by kernel_rfl) (by kernel_rfl) (fun _ _ _ h=>h) (Or.inl ⟨by rfl,?_⟩) (by assumption) ?_
 rotate_left
 ·(intro w hSw;refine Eq.trans (kst_n hSw 0 _ (by rfl) (by rfl) (by rfl)) ?_;with_reducible rfl)
 try simp only[Act.put,List.setIfInBounds_toArray,List.set_cons_zero,List.set_cons_succ]
 refine wpAnyH_take (i:=4) (oi:=⟨some 10,_,_,_,_,_⟩) (v:=?_) rfl (by kernel_rfl) (by kernel_rfl) (by kernel_rfl) (fun _ _ _ h=>h) (Or.inl ⟨by rfl,?_⟩) (by assumption) ?_
 rotate_left
 ·(intro w hSw;(try dsimp only at hSw);go_simp;try with_reducible rfl)
 try simp only[Act.put,List.setIfInBounds_toArray,List.set_cons_zero,List.set_cons_succ]
 refine wpAnyH_take (i:=5) (oi:=⟨some 11,_,_,_,_,_⟩) (v:=?_) rfl (by kernel_rfl) (by kernel_rfl) (by kernel_rfl) (fun _ _ _ h=>h) (Or.inl ⟨by rfl,?_⟩) (by assumption) ?_
 rotate_left
 ·(intro w hSw;refine Eq.trans (kst_o hSw 0 _ (by rfl) (by rfl) (by rfl)) ?_;with_reducible rfl)
 try simp only[Act.put,List.setIfInBounds_toArray,List.set_cons_zero,List.set_cons_succ]
 refine wpAnyH_ready (rs:=[2]) (by kernel_rfl) (by simp) ?_
 refine AllReadyH.cons (o:=⟨some 8,_,_,_,_,_⟩) rfl (fun K hK=>?_) AllReadyH.nil
 go_simp
 go_at_call 29
 refine(HNm.out _ _).mono ?_;rintro e w5 ⟨rfl,b5⟩;replace HK0:=zH (HK0.out.call b5);have hs:=zH (HK0.out.takeR 0);clear b5
 refine hK.out _ _ hs (fun hHeld=>?_)
 clear hK K
 try simp only[ap1,ap2,ap3,ap4,ap5]
 refine wpAnyH_ready (rs:=[3,6]) (by kernel_rfl) (by simp) ?_
 refine AllReadyH.cons (o:=⟨some 9,_,_,_,_,_⟩) rfl (fun K hK=>?_) (AllReadyH.cons (o:=⟨some 12,_,_,_,_,_⟩) rfl (fun K hK=>?_) AllReadyH.nil)
 refine step_mk1 itemLay (p:=Snp.n1 n) HK0 (by decide) (by rfl) _ (by rfl) (by rfl) (by rfl) ?_;intro _ g5 HK' _;replace HK0:=zH HK'.out.frontR;clear HK';have hs:=zH (HK0.out.takeR 0)
 refine hK.out _ _ hs (fun hHeld=>?_)
 clear hK K
 try simp only[ap1,ap2,ap3,ap4,ap5]
 refine wpAnyH_ready (rs:=[6]) (by kernel_rfl) (by simp) ?_
 refine AllReadyH.cons (o:=⟨some 12,_,_,_,_,_⟩) rfl (fun K hK=>?_) AllReadyH.nil
 go_simp
 go_at_call 30
 refine(HMo.out _ HK0.out.b).mono ?_;rintro e w5 ⟨A5,n5,c5,rfl,o5,b5⟩;replace HK0:=zH (HK0.out.called b5 o5);have HI5:=zH (Lay.Own.reads o5).1;simp only[lnA,lcA] at HK0;have hs:=zH (HK0.out.takeR 0);clear b5 o5
 refine hK.out _ _ hs (fun hHeld=>?_)
 clear hK K
 try simp only[ap1,ap2,ap3,ap4,ap5]
 refine wpAnyH_ready (rs:=[7]) (by kernel_rfl) (by simp) ?_
 refine AllReadyH.cons (o:=⟨some 13,_,_,_,_,_⟩) rfl (fun K hK=>?_) AllReadyH.nil
 have HR2:=zH (Kn.own HK0.out 1 rfl).rd;refine step_more2 itemLay HK0 0 (by rfl) _ _ (by rfl) (by rfl) (by rfl) lb (by rfl) HI5.out HR2 HL1 (N:=1+lb.length) HN1 ?_;intro A9 c9 _ HK';simp only[List.set] at HK';replace HK0:=HK';clear HK' HR2;have hs:=zH (HK0.out.takeR 0)
 refine hK.out _ _ hs (fun hHeld=>?_)
 clear hK K
 try simp only[ap1,ap2,ap3,ap4,ap5]
 refine wpAnyH_take (i:=8) (oi:=⟨some 3,_,_,_,_,_⟩) (v:=?_) rfl (by kernel_rfl) (by kernel_rfl) (by kernel_rfl) (fun _ _ _ h=>h) (Or.inl ⟨by rfl,?_⟩) (by assumption) ?_
 rotate_left
 ·(intro w hSw;(try dsimp only at hSw);go_simp;try with_reducible rfl)
 try simp only[Act.put,List.setIfInBounds_toArray,List.set_cons_zero,List.set_cons_succ]
 refine wpAnyH_done (by kernel_rfl) ?_ _
 rotate_left
 go_simp
 go_at_call 30
 refine(HMo.out _ HK0.out.b).mono ?_;rintro e w5 ⟨A5,n5,c5,rfl,o5,b5⟩;replace HK0:=zH (HK0.out.called b5 o5);have HI5:=zH (Lay.Own.reads o5).1;simp only[lnA,lcA] at HK0;have hs:=zH (HK0.out.takeR 0);clear b5 o5
 refine hK.out _ _ hs (fun hHeld=>?_)
 clear hK K
 try simp only[ap1,ap2,ap3,ap4,ap5]
 refine wpAnyH_ready (rs:=[3]) (by kernel_rfl) (by simp) ?_
 refine AllReadyH.cons (o:=⟨some 9,_,_,_,_,_⟩) rfl (fun K hK=>?_) AllReadyH.nil
 refine step_mk1 itemLay (p:=Snp.n1 n) HK0 (by decide) (by rfl) _ (by rfl) (by rfl) (by rfl) ?_;intro _ g5 HK' _;replace HK0:=zH HK'.out.frontR;clear HK';have hs:=zH (HK0.out.takeR 0)
 refine hK.out _ _ hs (fun hHeld=>?_)
 clear hK K
 try simp only[ap1,ap2,ap3,ap4,ap5]
 refine wpAnyH_ready (rs:=[7]) (by kernel_rfl) (by simp) ?_
 refine AllReadyH.cons (o:=⟨some 13,_,_,_,_,_⟩) rfl (fun K hK=>?_) AllReadyH.nil
 have HR2:=zH (Kn.own HK0.out 1 rfl).rd;refine step_more2 itemLay HK0 0 (by rfl) _ _ (by rfl) (by rfl) (by rfl) lb (by rfl) HI5.out HR2 HL1 (N:=1+lb.length) HN1 ?_;intro A9 c9 _ HK';simp only[List.set] at HK';replace HK0:=HK';clear HK' HR2;have hs:=zH (HK0.out.takeR 0)
 refine hK.out _ _ hs (fun hHeld=>?_)
 clear hK K
 try simp only[ap1,ap2,ap3,ap4,ap5]
 refine wpAnyH_take (i:=8) (oi:=⟨some 3,_,_,_,_,_⟩) (v:=?_) rfl (by kernel_rfl) (by kernel_rfl) (by kernel_rfl) (fun _ _ _ h=>h) (Or.inl ⟨by rfl,?_⟩) (by assumption) ?_
 rotate_left
 ·(intro w hSw;(try dsimp only at hSw);go_simp;try with_reducible rfl)
 try simp only[Act.put,List.setIfInBounds_toArray,List.set_cons_zero,List.set_cons_succ]
 refine wpAnyH_done (by kernel_rfl) ?_ _
 rotate_left
 all_goals
  rw[← HZ.out] at HK0
  have HN0:Hid ((M 0).length=1+lb.length):=zH (by rw[HZ.out];exact HN1.out)
  replace HK0:=zH (HK0.out.takeR 1)
  simp only[List.take] at HK0
  clear hHeld HK HZ HN1 HL1 HMo
  go_wp2_with (first|refine wpList_exe (kst_t HK0 0 _ (by rfl) (by rfl) (by rfl)) (by rfl) ?_)
  go_loopw [3,16] (fun vl vi wr=>∃(i:Nat) (A1:Option Addr) (N1 c1:Nat),i≤5∧vl=.slice A1 N1 c1∧vi=.int .i64 i∧Hid (N1≤562+i*7)∧Hid ((M i).length=N1)∧Hid (Kn w.heap.size w wr [(w.heap.size,33,stA n A k c t)] [row itemLay (.slice A1 N1 c1) (M i)])) (fun _ vi _=>5-(intOf vi).toNat)
  case atStart=>exact⟨0,_,_,_,Nat.zero_le _,rfl,rfl,HM0,HN0,HK0⟩
  case round=>
   clear HK0 HM0 HN0
   obtain⟨i,A1,N1,c1,hi,rfl,rfl,HB1,HM,HK⟩:=hrel
   by_cases hlt:i<5
   ·have HSi:=zH (fun W=>HSe.out i W hlt)
    have hsl:=Snp.seI_len (t.get i)
    have HN2:Hid ((M i++Snp.seI (t.get i)).length=N1+(Snp.seI (t.get i)).length):=zH (by rw[List.length_append,HM.out])
    have hB1:=HB1.out
    have HL2:=grow_ok (La:=itemLay) HN2 (by show(N1+(Snp.seI (t.get i)).length)*32≤_;omega) (by omega)
    have HB2:Hid (N1+(Snp.seI (t.get i)).length≤562+(i+1)*7):=zH (by omega)
    clear hsl hB1
    have hk1:(0:Int)≤(i:Int):=by omega
    have hk2:(i:Int)<5:=by omega
    go_wp2_with (first|refine wpList_exe (exec_ixs (c:=(i:Int)) (t:=t) ⟨hk1,hk2⟩ _ _ (by rfl) (by rfl) (by rfl)) (by rfl) ?_|(refine wpList_ase HK rfl rfl ?_;intro _ g5 HK';simp only[lcA,lnA] at HK';replace HK:=HK';clear HK')|(refine wpList_sse (u:=t.get i) HK 1 rfl _ _ rfl rfl rfl rfl ?_;intro _ HK';simp only[List.set] at HK';replace HK:=HK';clear HK')|refine wpList_exe (kse HK 1 _ (by rfl) (by rfl) (by rfl)) (by rfl) ?_)
    refine(HSi.out _).mono ?_;rintro e w2 ⟨A5,n5,c5,rfl,o5,b5⟩
    have HI5:=zH (Lay.Own.reads o5).1
    replace HK:=zH (HK.out.called b5 o5)
    simp only[lcA,lnA] at HK
    clear o5 b5
    have HR:=zH (HK.out.own 1 rfl).rd
    go_wp2_with (first|(at_builtin;refine wpList_kmore HK itemLay 0 rfl _ _ rfl rfl rfl (Snp.seI (t.get i)) rfl HI5.out HR HL2 (N:=N1+(Snp.seI (t.get i)).length) HN2 ?_;intro A7 c7 _ HK';simp only[List.set] at HK';replace HK:=HK';clear HK'))
    refine⟨⟨i+1,A7,_,c7,by omega,rfl,by go_num,HB2,zH (by rw[HMore.out];exact HN2.out),zH ?_⟩,by simp[intOf];omega⟩
    rw[HMore.out]
    exact(HK.out.takeL 1).takeR 1
   ·obtain rfl:i=5:=by omega
    go_wp2_with fail
    go_ret
    exact⟨_,_,_,rfl,HK.out.own 0 rfl,HK.out.b⟩
end
end Go.Proofs.Ytieoeendnccafaa
