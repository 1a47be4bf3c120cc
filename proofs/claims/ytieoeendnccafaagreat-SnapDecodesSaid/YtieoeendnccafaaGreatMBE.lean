/- What value.From returns at a place of items: what stands there, or that there is none. No condition but those named. -/
import Derived.Test.YtieoeendnccafaaGreatMTK
import Derived.Test.YtieoeendnccafaaGreatMAP
import Derived.Test.YtieoeendnccafaaGreatMAR
import Derived.Test.YtieoeendnccafaaGreatWireREncode
import Derived.Test.YtieoeendnccafaaGreatApRight
import Derived.Test.YtieoeendnccafaaGreatApRRight
import Derived.Test.YtieoeendnccafaaGreatMAH
import Derived.Test.YtieoeendnccafaaGreatMAE
import Derived.Deep.CutBlock
import Derived.Deep.DeepCutAuto
import Derived.WalkKit
import Derived.WalkSpells
import Derived.WalkLawsBesides
import Derived.Handy
import Derived.Deep.QuietTactic
import Derived.BigQuiet
import Derived.Deep.Draws
import Derived.Lib.Hide
set_option linter.unusedSimpArgs false
set_option linter.unusedVariables false
set_option maxRecDepth 100000
set_option maxHeartbeats 25600000
namespace Go.Proofs.YtieoeendnccafaaGreat
section
open Go.RowKit
theorem reads_items{w:World}{B:Nat}{A:Option Addr}{l:Snp.Its}(h:itemLay.Reads w B A l):Items w B A (l.map Snp.toW):=fun hn=>by
 rw[List.length_map] at hn
 obtain⟨b,o,hA,hb,hat⟩:=h hn
 refine⟨b,o,hA,hb,fun i x hx=>?_⟩
 rw[List.getElem?_map] at hx
 obtain⟨y,hy,rfl⟩:=Option.map_eq_some_iff.1 hx
 exact at_item (hat i y hy)
def IsBe(r:ByteArray×Int)(w:World)(e:Ending)(w':World):Prop:=e=.returned (.tuple #[.string r.1,.int .i64 r.2])∧Below w.heap.size w w'
theorem wencode_its(A:Option Addr)(n c:Nat)(l:Snp.Its)(w:World)(hn:n=l.length)(hb:l.length≤1000)(hi:itemLay.Reads w w.heap.size A l)(hg:∀x∈l.map Snp.toW,Wire.Good x):
  Calls Tryz.prog 45 #[.slice A n c] w (IsBe (Wire.E (l.map Snp.toW)) w):=by
 have h:=encode_any A c (l.map Snp.toW) w (by rw[List.length_map];omega) (reads_items hi) (fun x hx=>⟨(hg x hx).2.1,(hg x hx).2.2.1⟩) (fun x hx=>by have:=(hg x hx).2.2.2;omega)
 rw[List.length_map,← hn] at h
 exact h
theorem wrencode_its(A:Option Addr)(n c:Nat)(l:Snp.Its)(w:World)(hn:n=l.length)(hb:l.length≤1000)(hi:itemLay.Reads w w.heap.size A l)(hg:∀x∈l.map Snp.toW,Wire.Good x):
  Calls Tryz.prog 49 #[.slice A n c] w (IsBe (Wire.E (l.map Snp.toW)) w):=by
 have h:=rencode_any A c (l.map Snp.toW) w (by rw[List.length_map];omega) (reads_items hi) (fun x hx=>⟨(hg x hx).2.1,(hg x hx).2.2.1⟩) (fun x hx=>by have:=(hg x hx).2.2.2;omega)
 rw[List.length_map,← hn] at h
 exact h
theorem ok_short{w:World}{A:Option Addr}{k c:Nat}{lo:List Oh}{n:Int}{t:Ses.T}(hs:Obs w A k c lo)(h:Ap.Ok ⟨n,vs lo,t⟩):k≤8∧∀x∈lo,Short x:=by
 have h1:(vs lo).length≤8:=h.l.len
 rw[vs_len,hs.len] at h1
 refine⟨h1,fun x hx=>?_⟩
 have b:=Snp.one_bo (h.l.ok x.v (List.mem_map.2 ⟨x,hx,rfl⟩))
 have i:=hs.i x hx
 exact⟨by rw[← i.p.sls.len];exact b.p,by rw[← i.v.len];exact b.v,by rw[← i.r.len];exact b.r⟩
theorem Snp.tbI_len(t:Ses.T):(Snp.tbI t).length≤35:=by
 have h0:=Snp.seI_len t.s0
 have h1:=Snp.seI_len t.s1
 have h2:=Snp.seI_len t.s2
 have h3:=Snp.seI_len t.s3
 have h4:=Snp.seI_len t.s4
 unfold Snp.tbI
 simp only[List.length_append]
 omega
theorem Snp.stI_len{w:World}{A:Option Addr}{k c:Nat}{lo:List Oh}(n:Int)(t:Ses.T)(hs:Obs w A k c lo)(hk:k≤8)(hsh:∀x∈lo,Short x):(Snp.stI ⟨n,vs lo,t⟩).length≤1000:=by
 have h1:=Snp.obs_len hs hk hsh
 rw[Snp.many_vs] at h1
 have h2:=Snp.tbI_len t
 unfold Snp.stI
 rw[List.length_cons,List.length_append]
 show(Snp.many Snp.obI (vs lo)).length+(Snp.tbI t).length+1≤_
 omega
theorem E_yes{s:Ap.St}(h:Ap.Ok s):Snp.E s=Wire.E ((Snp.stI s).map Snp.toW):=if_pos h
theorem nencode_any(n:Int)(A:Option Addr)(k c:Nat)(t:Ses.T)(lo:List Oh)(w:World)(hs:Obs w A k c lo)(hf:Ses.Fit t)(hfit:Snp.Fit (Snp.stI ⟨n,vs lo,t⟩)):
  Calls Tryz.prog 17 #[.agg (stA n A k c t)] w (IsBe (Snp.E ⟨n,vs lo,t⟩) w):=by
 have HRt:Hid (∀W,Below w.heap.size w W→Calls Tryz.prog 13 #[.agg (stA n A k c t)] W (IsB (decide (Ap.Ok ⟨n,vs lo,t⟩)) W)):=zH fun W hW=>apright_any n A k c t lo W (hs.later hW) hf
 have HK:=kn1 w 33 (stA n A k c t)
 by_cases hok:Ap.Ok ⟨n,vs lo,t⟩
 case neg=>
  rw[Snp.E_no hok]
  rw[decide_eq_false hok] at HRt
  unfold IsB at HRt
  clear hs hf hfit hok
  go_enter Tryz.func17,Tryz.ntmps17
  go_wp2_with (first|refine zX (kst HK 0 _ (by rfl) (by rfl) (by rfl)) ?_)
  refine(HRt.out _ HK.out.b).mono ?_;rintro e w1 ⟨rfl,b1⟩
  replace HK:=hkC HK b1
  clear b1
  go_wp2_with fail
  go_ret2
  exact⟨rfl,HK.out.b⟩
 case pos=>
  obtain⟨hk,hsh⟩:=ok_short hs hok
  have HIt:Hid (∀W,Below w.heap.size w W→Calls Tryz.prog 46 #[.agg (stA n A k c t)] W (IsLg itemLay (Snp.stI ⟨n,vs lo,t⟩) W)):=zH fun W hW=>nitems_any n A k c t lo W (hs.later hW) hf hk hsh
  have hl:=Snp.stI_len n t hs hk hsh
  have hg:=Snp.good_st hok hfit
  rw[E_yes hok]
  rw[decide_eq_true hok] at HRt
  unfold IsB at HRt
  generalize Snp.stI ⟨n,vs lo,t⟩=its at *
  have HE:Hid (∀(A:Option Addr) (m c:Nat) W,m=its.length→itemLay.Reads W W.heap.size A its→Calls Tryz.prog 45 #[.slice A m c] W (IsBe (Wire.E (its.map Snp.toW)) W)):=zH fun A m c W hm hr=>wencode_its A m c its W hm hl hr hg
  unfold IsBe at HE ⊢
  unfold IsLg at HIt
  clear hs hf hfit hok hk hsh hl hg
  generalize Wire.E (its.map Snp.toW)=r at *
  obtain⟨r1,r2⟩:=r
  simp only at HE ⊢
  go_enter Tryz.func17,Tryz.ntmps17
  go_wp2_with (first|refine zX (kst HK 0 _ (by rfl) (by rfl) (by rfl)) ?_)
  refine(HRt.out _ HK.out.b).mono ?_;rintro e w1 ⟨rfl,b1⟩
  replace HK:=hkC HK b1
  clear b1
  go_wp2_with (first|refine zX (kst HK 0 _ (by rfl) (by rfl) (by rfl)) ?_)
  refine(HIt.out _ HK.out.b).mono ?_;rintro e w2 ⟨A2,n2,c2,rfl,o2,b2⟩
  replace HK:=hkC HK b2
  have HI:=zH (Lay.Own.reads o2)
  clear b2 o2
  go_wp2_with fail
  refine(HE.out _ _ _ _ HI.out.1 HI.out.2).mono ?_;rintro e w3 ⟨rfl,b3⟩
  replace HK:=hkC HK b3
  clear b3
  go_wp2_with fail
  go_ret2
  exact⟨rfl,HK.out.b⟩
theorem rnencode_any(n:Int)(A:Option Addr)(k c:Nat)(t:Ses.T)(lo:List Oh)(w:World)(hs:Obs w A k c lo)(hf:Ses.Fit t)(hfit:Snp.Fit (Snp.stI ⟨n,vs lo,t⟩)):
  Calls Tryz.prog 18 #[.agg (stA n A k c t)] w (IsBe (Snp.E ⟨n,vs lo,t⟩) w):=by
 have HRt:Hid (∀W,Below w.heap.size w W→Calls Tryz.prog 14 #[.agg (stA n A k c t)] W (IsB (decide (Ap.Ok ⟨n,vs lo,t⟩)) W)):=zH fun W hW=>rapright_any n A k c t lo W (hs.later hW) hf
 have HK:=kn1 w 33 (stA n A k c t)
 by_cases hok:Ap.Ok ⟨n,vs lo,t⟩
 case neg=>
  rw[Snp.E_no hok]
  rw[decide_eq_false hok] at HRt
  unfold IsB at HRt
  clear hs hf hfit hok
  go_enter Tryz.func18,Tryz.ntmps18
  go_wp2_with (first|refine zX (kst HK 0 _ (by rfl) (by rfl) (by rfl)) ?_)
  refine(HRt.out _ HK.out.b).mono ?_;rintro e w1 ⟨rfl,b1⟩
  replace HK:=hkC HK b1
  clear b1
  go_wp2_with fail
  go_ret2
  exact⟨rfl,HK.out.b⟩
 case pos=>
  obtain⟨hk,hsh⟩:=ok_short hs hok
  have HOb:Hid (∀x∈lo,∀W,Below w.heap.size w W→Calls Tryz.prog 47 #[.agg (obA x)] W (IsLg itemLay (Snp.obI x.v) W)):=zH fun x hx W hW=>rnob_any x W ((hs.i x hx).later hW) (hsh x hx)
  have HOl:Hid (∀x∈lo,(Snp.obI x.v).length≤70):=zH fun x hx=>Snp.obI_len (hs.i x hx) (hsh x hx)
  have HSe:Hid (∀(i:Nat) (W:World),i<5→Calls Tryz.prog 48 #[.agg (seA (t.get i))] W (IsLg itemLay (Snp.seI (t.get i)) W)):=zH fun i W hi=>rnse_any (t.get i) W (hf i ⟨by omega,by omega⟩)
  have hl:=Snp.stI_len n t hs hk hsh
  have hg:=Snp.good_st hok hfit
  obtain⟨Z1,hZ1⟩:∃Z:Snp.Its,Z=[Snp.n1 n,Snp.n1 k]:=⟨_,rfl⟩
  obtain⟨M1,hM1⟩:∃M:Nat→Snp.Its,M=Snp.mq Z1 (fun x:Oh=>Snp.obI x.v) lo:=⟨_,rfl⟩
  obtain⟨M2,hM2⟩:∃M:Nat→Snp.Its,M=Snp.ss (M1 k) t:=⟨_,rfl⟩
  have HZ1:=zH hZ1
  have HM10:Hid (M1 0=Z1):=zH (by rw[hM1,Snp.mq_zero])
  have HM20:Hid (M2 0=M1 k):=zH (by rw[hM2];rfl)
  have HMo1:Hid (∀(i:Nat) x,lo[i]?=some x→M1 (i+1)=M1 i++Snp.obI x.v):=zH fun i x h=>by
   rw[hM1,Snp.mq_more _ _ h]
  have HMo2:Hid (∀i:Nat,M2 (i+1)=M2 i++Snp.seI (t.get i)):=zH fun i=>by rw[hM2];rfl
  have hAll:M2 5=Snp.stI ⟨n,vs lo,t⟩:=by
   rw[hM2,Snp.ss_all,hM1,Snp.mq_all _ _ hs.len,hZ1]
   unfold Snp.stI
   show _=Snp.n1 n::(Snp.many Snp.obI (vs lo)++Snp.tbI t)
   rw[← Snp.many_vs]
   unfold Snp.many
   rw[hs.len]
   rfl
  rw[E_yes hok]
  rw[decide_eq_true hok] at HRt
  unfold IsB at HRt
  rw[← hAll] at hl hg ⊢
  have HE:Hid (∀(A:Option Addr) (m c:Nat) W,m=(M2 5).length→itemLay.Reads W W.heap.size A (M2 5)→Calls Tryz.prog 49 #[.slice A m c] W (IsBe (Wire.E ((M2 5).map Snp.toW)) W)):=zH fun A m c W hm hr=>wrencode_its A m c _ W hm hl hr hg
  have HS:=zH hs
  have HLen:=zH hs.len
  unfold IsBe at HE ⊢
  unfold IsLg at HOb HSe
  clear hM1 hM2 hZ1 hf hfit hok hsh hl hg hs hAll
  generalize Wire.E ((M2 5).map Snp.toW)=r at *
  obtain⟨r1,r2⟩:=r
  simp only at HE ⊢
  go_enter Tryz.func18,Tryz.ntmps18
  go_wp2_with (first|refine zX (kst HK 0 _ (by rfl) (by rfl) (by rfl)) ?_)
  refine(HRt.out _ HK.out.b).mono ?_;rintro e w1 ⟨rfl,b1⟩
  replace HK:=hkC HK b1
  clear b1
  go_wp2_with (first|refine zX (kst_n HK 0 _ (by rfl) (by rfl) (by rfl)) ?_|refine zX (kst_o HK 0 _ (by rfl) (by rfl) (by rfl)) ?_|(refine wpList_mk2 itemLay (p1:=Snp.n1 n) (p2:=Snp.n1 k) HK (by decide) rfl _ _ rfl rfl rfl rfl rfl ?_;intro _ g2 HK';simp only[lnA] at HK';rw[← HZ1.out,← HM10.out] at HK';replace HK:=HK';clear HK'))
  go_loopw [4,5] (fun vl vi wr=>∃(i:Nat) (A1:Option Addr) (N1 c1:Nat),i≤k∧vl=.slice A1 N1 c1∧vi=.int .i64 i∧Hid (N1≤2+i*70)∧Hid ((M1 i).length=N1)∧Hid (Kn w.heap.size w wr [(w.heap.size,33,stA n A k c t)] [row itemLay (.slice A1 N1 c1) (M1 i)])) (fun _ vi _=>k-(intOf vi).toNat)
  case atStart=>exact⟨0,_,2,2,Nat.zero_le _,rfl,rfl,zH (by omega),zH (by rw[HM10.out,HZ1.out];rfl),HK⟩
  case round=>
   clear HK
   obtain⟨i,A1,N1,c1,hi,rfl,rfl,HB1,HM,HK⟩:=hrel
   by_cases hlt:i<k
   ·obtain⟨y,hy⟩:=Lay.get_of (l:=lo) (k:=i) (by rw[HLen.out];exact hlt)
    obtain⟨b,o,hA,hat⟩:=HS.out.s.at (Nat.lt_of_le_of_lt (Nat.zero_le _) hlt)
    have HX:Hid (∀W,Below w.heap.size w W→∀j v,(obL y)[j]?=some v→W.cell? ⟨b,o+i*11+j,none⟩=some v):=zH fun W hW=>hat W hW i y hy
    have HOy:=zH (HOb.out y (List.mem_of_getElem? hy))
    have hil:=HOl.out y (List.mem_of_getElem? hy)
    have HM1:=zH (HMo1.out i y hy)
    generalize Snp.obI y.v=ly at *
    have HN3:Hid ((M1 i++ly).length=N1+ly.length):=zH (by rw[List.length_append,HM.out])
    have hB1:=HB1.out
    have HL3:=grow_ok (La:=itemLay) HN3 (by show(N1+ly.length)*32≤_;omega) (by omega)
    have HB2:Hid (N1+ly.length≤2+(i+1)*70):=zH (by omega)
    have HA:=zH hA
    clear hat hy hil hB1 hA
    have hk1:(0:Int)≤(i:Int):=by omega
    have hk2:(i:Int)<(k:Int):=by omega
    have hk3:IntKind.i64.wrap ((i:Int)+1)=((i+1:Nat):Int):=by rw[IntKind.wrap_i64];omega
    go_wp2_with (first|refine zX (kst_o HK 0 _ (by rfl) (by rfl) (by rfl)) ?_|refine zX (exec_slx obLay (b:=b) (off:=o) (i:=i) _ _ (by rfl) (by rw[← HA.out];rfl) (by rfl) hlt) ?_|refine zX (exec_obx (x:=y) (off:=o+i*11) _ (by rfl) (by rfl) (HX.out _ HK.out.b)) ?_)
    refine(HOy.out _ HK.out.b).mono ?_;rintro e w5 ⟨A5,n5,c5,rfl,o5,b5⟩
    replace HK:=zH (HK.out.called b5 o5)
    have HI5:=zH (Lay.Own.reads o5).1
    simp only[lcA,lnA] at HK
    clear b5 o5
    have HR:=zH (HK.out.own 1 rfl).rd
    go_wp2_with (first|(at_builtin;refine wpList_kmore HK itemLay 0 rfl _ _ rfl rfl rfl ly rfl HI5.out HR HL3 (N:=N1+ly.length) HN3 ?_;intro A8 c8 _ HK';simp only[List.set] at HK';replace HK:=zH (HK'.out.takeR 1);simp only[List.take] at HK;clear HK' HR)|refine zX (exec_add1 (j:=i) _ (by rfl) (by rfl) hk3) ?_)
    have HKn:=HK
    rw[← HM1.out] at HKn
    exact⟨⟨i+1,A8,_,c8,by omega,rfl,by go_num,HB2,zH (by rw[HM1.out];exact HN3.out),HKn⟩,by simp[intOf];omega⟩
   ·obtain rfl:i=k:=by omega
    rw[← HM20.out] at HK HM
    have HB3:Hid (N1≤2+i*70+0*7):=zH (by have:=HB1.out;omega)
    clear HB1
    go_wp2_with (first|refine zX (kst_o HK 0 _ (by rfl) (by rfl) (by rfl)) ?_)
    go_loopw [4,6] (fun vl vi wr=>∃(j:Nat) (A1:Option Addr) (N1 c1:Nat),j≤5∧vl=.slice A1 N1 c1∧vi=.int .i64 j∧Hid (N1≤2+i*70+j*7)∧Hid ((M2 j).length=N1)∧Hid (Kn w.heap.size w wr [(w.heap.size,33,stA n A i c t)] [row itemLay (.slice A1 N1 c1) (M2 j)])) (fun _ vi _=>5-(intOf vi).toNat)
    case atStart=>exact⟨0,_,_,_,Nat.zero_le _,rfl,rfl,HB3,HM,HK⟩
    case round=>
     clear HK HM HB3
     obtain⟨j,A1,N1,c1,hj,rfl,rfl,HB1,HM,HK⟩:=hrel
     by_cases hlt:j<5
     ·have HSi:=zH (fun W=>HSe.out j W hlt)
      have hsl:=Snp.seI_len (t.get j)
      have HM1:=zH (HMo2.out j)
      generalize Snp.seI (t.get j)=ly at *
      have HN3:Hid ((M2 j++ly).length=N1+ly.length):=zH (by rw[List.length_append,HM.out])
      have hB1:=HB1.out
      have HL3:=grow_ok (La:=itemLay) HN3 (by show(N1+ly.length)*32≤_;omega) (by omega)
      have HB2:Hid (N1+ly.length≤2+i*70+(j+1)*7):=zH (by omega)
      clear hsl hB1
      have hk1:(0:Int)≤(j:Int):=by omega
      have hk2:(j:Int)<5:=by omega
      have hk3:IntKind.i64.wrap ((j:Int)+1)=((j+1:Nat):Int):=by rw[IntKind.wrap_i64];omega
      go_wp2_with (first|refine zX (exec_ixq (q1:=(j:Int)) ⟨hk1,hk2⟩ _ _ (by rfl) (by rfl) (by rfl)) ?_|refine zX (kst_s (q1:=(j:Int)) HK 0 ⟨hk1,hk2⟩ _ (by rfl) (by rfl) (by rfl)) ?_)
      refine(HSi.out _).mono ?_;rintro e w5 ⟨A5,n5,c5,rfl,o5,b5⟩
      replace HK:=zH (HK.out.called b5 o5)
      have HI5:=zH (Lay.Own.reads o5).1
      simp only[lcA,lnA] at HK
      clear b5 o5
      have HR:=zH (HK.out.own 1 rfl).rd
      go_wp2_with (first|(at_builtin;refine wpList_kmore HK itemLay 0 rfl _ _ rfl rfl rfl ly rfl HI5.out HR HL3 (N:=N1+ly.length) HN3 ?_;intro A8 c8 _ HK';simp only[List.set] at HK';replace HK:=zH (HK'.out.takeR 1);simp only[List.take] at HK;clear HK' HR)|refine zX (exec_add1 (j:=j) _ (by rfl) (by rfl) hk3) ?_)
      have HKn:=HK
      rw[← HM1.out] at HKn
      exact⟨⟨j+1,A8,_,c8,by omega,rfl,by go_num,HB2,zH (by rw[HM1.out];exact HN3.out),HKn⟩,by simp[intOf];omega⟩
     ·obtain rfl:j=5:=by omega
      have HI:=zH (Lay.Own.reads (HK.out.own 0 rfl))
      go_wp2_with fail
      refine(HE.out _ _ _ _ HI.out.1 HI.out.2).mono ?_;rintro e w3 ⟨rfl,b3⟩
      replace HK:=hkC HK b3
      clear b3
      go_wp2_with fail
      go_ret2
      exact⟨rfl,HK.out.b⟩
end
section
open Go.RowKit
theorem wrap_us(n:Int):IntKind.u64.wrap n=(Val.us n:Int):=by
 rw[IntKind.wrap_u64];unfold Val.us;omega
theorem us_lt(n:Int):Val.us n<18446744073709551616:=by unfold Val.us;omega
section
variable (b o c n:Nat)(xn yn:Int)(ys:ByteArray)(w:World)
theorem take_1(HX:Hid (∀W,Below w.heap.size w W→W.cell? ⟨b,o+1,none⟩=some (.int .i64 xn))):
  Calls Tryz.prog 271 #[.slice (some ⟨b,o,none⟩) 1 c] w fun e w'=>e=.returned (.agg #[.int .i64 xn,.int .i64 0,.int .u64 ((0:Nat):Int),.string ⟨#[]⟩])∧Below w.heap.size w w':=by
 have HK:=zH (Kn.start w)
 have x1:=HX.out _ HK.out.b
 go_enter Tryz.func271,Tryz.ntmps271
 go_wp2_with (first|(refine wpList_akv HK rfl rfl ?_;intro _ g1 HK';simp only[lcA,lnA] at HK';replace HK:=HK';clear HK';clear x1;have x1:=HX.out _ HK.out.b)|refine wpList_of_exec (by rfl) (kexec_vv HK 1 _ rfl rfl rfl) ?_|(first|(refine wpList_sv HK 1 rfl _ _ rfl rfl rfl rfl ?_;intro _ HK';simp only[List.set] at HK';replace HK:=HK';clear HK';clear x1;have x1:=HX.out _ HK.out.b)|(refine wpList_sv HK 0 rfl _ _ rfl rfl rfl rfl ?_;intro _ HK';simp only[List.set] at HK';replace HK:=HK';clear HK';clear x1;have x1:=HX.out _ HK.out.b)))
 exact ret_v Tryz.results271 rfl rfl (HK.out.blk 0 rfl) ⟨rfl,HK.out.b⟩
theorem take_i(hn:2≤n)(hc:n≤c)(hbig:n≤9223372036854775807)(ok:Bool)(hN:∀W,Calls Tryz.prog 180 #[.int .i64 xn] W (IsNamed true false false ok W))(HX:Hid (∀W,Below w.heap.size w W→W.cell? ⟨b,o+1,none⟩=some (.int .i64 xn)∧W.cell? ⟨b,o+4,none⟩=some (.int .i64 yn)∧W.cell? ⟨b,o+5,none⟩=some (.string ys))):
  Calls Tryz.prog 271 #[.slice (some ⟨b,o,none⟩) n c] w fun e w'=>e=.returned (.agg #[.int .i64 xn,.int .i64 yn,.int .u64 ((0:Nat):Int),.string ⟨#[]⟩])∧Below w.heap.size w w':=by
 have h1:((n:Int)==1)=false:=by simp;omega
 have h2:(1:Int)<(n:Int):=by omega
 have h3:(0:Int)<(n:Int):=by omega
 have h4:¬n=1:=by omega
 have h5:0<n:=by omega
 have h6:1<n:=by omega
 have HN:=zH hN
 clear hN hn hc hbig
 have HK:=zH (Kn.start w)
 obtain⟨x1,x4,x5⟩:=HX.out _ HK.out.b
 go_enter Tryz.func271,Tryz.ntmps271
 go_upto_region 4 with (first|(refine wpList_akv HK rfl rfl ?_;intro _ g1 HK';simp only[lcA,lnA] at HK';replace HK:=HK';clear HK';clear x1 x4 x5;obtain⟨x1,x4,x5⟩:=HX.out _ HK.out.b)|(first|(refine wpList_sv HK 1 rfl _ _ rfl rfl rfl rfl ?_;intro _ HK';simp only[List.set] at HK';replace HK:=HK';clear HK';clear x1 x4 x5;obtain⟨x1,x4,x5⟩:=HX.out _ HK.out.b)|(refine wpList_sv HK 0 rfl _ _ rfl rfl rfl rfl ?_;intro _ HK';simp only[List.set] at HK';replace HK:=HK';clear HK';clear x1 x4 x5;obtain⟨x1,x4,x5⟩:=HX.out _ HK.out.b)))
 have z0:=HK.out.cell 1 rfl 0 (v:=.int .i64 xn) rfl
 go_wp2_with fail
 refine(HN.out _).mono ?_;rintro e w1 ⟨rfl,b1⟩
 replace HK:=hkC HK b1
 clear b1 z0
 go_upto_region 5 with (first|(refine wpList_ak3 HK rfl rfl ?_;intro _ g3 HK';simp only[lcA,lnA] at HK';replace HK:=HK';clear HK')|(refine wpList_sf3 HK 2 rfl _ _ rfl rfl rfl rfl ?_;intro _ HK';simp only[List.set] at HK';replace HK:=HK';clear HK'))
 clear x1 x4 x5
 obtain⟨x1,x4,x5⟩:=HX.out _ HK.out.b
 have y0:=HK.out.cell 2 rfl 0 (v:=.bool true) rfl
 have y1:=HK.out.cell 2 rfl 1 (v:=.bool false) rfl
 have y2:=HK.out.cell 2 rfl 2 (v:=.bool false) rfl
 go_wp2_with (first|(refine wpList_svn HK 1 rfl _ _ rfl rfl rfl rfl ?_;intro _ HK';simp only[List.set] at HK';replace HK:=HK';clear HK';clear x1 x4 x5 y0 y1 y2;obtain⟨x1,x4,x5⟩:=HX.out _ HK.out.b;have y0:=HK.out.cell 2 rfl 0 (v:=.bool true) rfl;have y1:=HK.out.cell 2 rfl 1 (v:=.bool false) rfl;have y2:=HK.out.cell 2 rfl 2 (v:=.bool false) rfl)|(refine wpList_svf HK 1 rfl _ _ rfl rfl rfl rfl ?_;intro _ HK';simp only[List.set] at HK';replace HK:=HK';clear HK';clear x1 x4 x5 y0 y1 y2;obtain⟨x1,x4,x5⟩:=HX.out _ HK.out.b;have y0:=HK.out.cell 2 rfl 0 (v:=.bool true) rfl;have y1:=HK.out.cell 2 rfl 1 (v:=.bool false) rfl;have y2:=HK.out.cell 2 rfl 2 (v:=.bool false) rfl)|(refine wpList_svs HK 1 rfl _ _ rfl rfl rfl rfl ?_;intro _ HK';simp only[List.set] at HK';replace HK:=HK';clear HK';clear x1 x4 x5 y0 y1 y2;obtain⟨x1,x4,x5⟩:=HX.out _ HK.out.b;have y0:=HK.out.cell 2 rfl 0 (v:=.bool true) rfl;have y1:=HK.out.cell 2 rfl 1 (v:=.bool false) rfl;have y2:=HK.out.cell 2 rfl 2 (v:=.bool false) rfl)|refine wpList_of_exec (by rfl) (kexec_vv HK 1 _ rfl rfl rfl) ?_|(refine wpList_sv HK 0 rfl _ _ rfl rfl rfl rfl ?_;intro _ HK';simp only[List.set] at HK';replace HK:=HK';clear HK'))
 exact ret_v Tryz.results271 rfl rfl (HK.out.blk 0 rfl) ⟨rfl,HK.out.b⟩
theorem take_f(hn:2≤n)(hc:n≤c)(hbig:n≤9223372036854775807)(ok:Bool)(hN:∀W,Calls Tryz.prog 180 #[.int .i64 xn] W (IsNamed false true false ok W))(HX:Hid (∀W,Below w.heap.size w W→W.cell? ⟨b,o+1,none⟩=some (.int .i64 xn)∧W.cell? ⟨b,o+4,none⟩=some (.int .i64 yn)∧W.cell? ⟨b,o+5,none⟩=some (.string ys))):
  Calls Tryz.prog 271 #[.slice (some ⟨b,o,none⟩) n c] w fun e w'=>e=.returned (.agg #[.int .i64 xn,.int .i64 0,.int .u64 ((Val.us yn:Nat):Int),.string ⟨#[]⟩])∧Below w.heap.size w w':=by
 have h1:((n:Int)==1)=false:=by simp;omega
 have h2:(1:Int)<(n:Int):=by omega
 have h3:(0:Int)<(n:Int):=by omega
 have h4:¬n=1:=by omega
 have h5:0<n:=by omega
 have h6:1<n:=by omega
 have HN:=zH hN
 clear hN hn hc hbig
 have hus:=wrap_us yn
 generalize Val.us yn=z at *
 have HK:=zH (Kn.start w)
 obtain⟨x1,x4,x5⟩:=HX.out _ HK.out.b
 go_enter Tryz.func271,Tryz.ntmps271
 go_upto_region 4 with (first|(refine wpList_akv HK rfl rfl ?_;intro _ g1 HK';simp only[lcA,lnA] at HK';replace HK:=HK';clear HK';clear x1 x4 x5;obtain⟨x1,x4,x5⟩:=HX.out _ HK.out.b)|(first|(refine wpList_sv HK 1 rfl _ _ rfl rfl rfl rfl ?_;intro _ HK';simp only[List.set] at HK';replace HK:=HK';clear HK';clear x1 x4 x5;obtain⟨x1,x4,x5⟩:=HX.out _ HK.out.b)|(refine wpList_sv HK 0 rfl _ _ rfl rfl rfl rfl ?_;intro _ HK';simp only[List.set] at HK';replace HK:=HK';clear HK';clear x1 x4 x5;obtain⟨x1,x4,x5⟩:=HX.out _ HK.out.b)))
 have z0:=HK.out.cell 1 rfl 0 (v:=.int .i64 xn) rfl
 go_wp2_with fail
 refine(HN.out _).mono ?_;rintro e w1 ⟨rfl,b1⟩
 replace HK:=hkC HK b1
 clear b1 z0
 go_upto_region 5 with (first|(refine wpList_ak3 HK rfl rfl ?_;intro _ g3 HK';simp only[lcA,lnA] at HK';replace HK:=HK';clear HK')|(refine wpList_sf3 HK 2 rfl _ _ rfl rfl rfl rfl ?_;intro _ HK';simp only[List.set] at HK';replace HK:=HK';clear HK'))
 clear x1 x4 x5
 obtain⟨x1,x4,x5⟩:=HX.out _ HK.out.b
 have y0:=HK.out.cell 2 rfl 0 (v:=.bool false) rfl
 have y1:=HK.out.cell 2 rfl 1 (v:=.bool true) rfl
 have y2:=HK.out.cell 2 rfl 2 (v:=.bool false) rfl
 go_wp2_with (first|(refine wpList_svn HK 1 rfl _ _ rfl rfl rfl rfl ?_;intro _ HK';simp only[List.set] at HK';replace HK:=HK';clear HK';clear x1 x4 x5 y0 y1 y2;obtain⟨x1,x4,x5⟩:=HX.out _ HK.out.b;have y0:=HK.out.cell 2 rfl 0 (v:=.bool false) rfl;have y1:=HK.out.cell 2 rfl 1 (v:=.bool true) rfl;have y2:=HK.out.cell 2 rfl 2 (v:=.bool false) rfl)|(refine wpList_svf HK 1 rfl _ _ rfl rfl rfl rfl ?_;intro _ HK';simp only[List.set] at HK';replace HK:=HK';clear HK';clear x1 x4 x5 y0 y1 y2;obtain⟨x1,x4,x5⟩:=HX.out _ HK.out.b;have y0:=HK.out.cell 2 rfl 0 (v:=.bool false) rfl;have y1:=HK.out.cell 2 rfl 1 (v:=.bool true) rfl;have y2:=HK.out.cell 2 rfl 2 (v:=.bool false) rfl)|(refine wpList_svs HK 1 rfl _ _ rfl rfl rfl rfl ?_;intro _ HK';simp only[List.set] at HK';replace HK:=HK';clear HK';clear x1 x4 x5 y0 y1 y2;obtain⟨x1,x4,x5⟩:=HX.out _ HK.out.b;have y0:=HK.out.cell 2 rfl 0 (v:=.bool false) rfl;have y1:=HK.out.cell 2 rfl 1 (v:=.bool true) rfl;have y2:=HK.out.cell 2 rfl 2 (v:=.bool false) rfl)|refine wpList_of_exec (by rfl) (kexec_vv HK 1 _ rfl rfl rfl) ?_|(refine wpList_sv HK 0 rfl _ _ rfl rfl rfl rfl ?_;intro _ HK';simp only[List.set] at HK';replace HK:=HK';clear HK'))
 exact ret_v Tryz.results271 rfl rfl (HK.out.blk 0 rfl) ⟨rfl,HK.out.b⟩
theorem take_s(hn:2≤n)(hc:n≤c)(hbig:n≤9223372036854775807)(ok:Bool)(hN:∀W,Calls Tryz.prog 180 #[.int .i64 xn] W (IsNamed false false true ok W))(HX:Hid (∀W,Below w.heap.size w W→W.cell? ⟨b,o+1,none⟩=some (.int .i64 xn)∧W.cell? ⟨b,o+4,none⟩=some (.int .i64 yn)∧W.cell? ⟨b,o+5,none⟩=some (.string ys))):
  Calls Tryz.prog 271 #[.slice (some ⟨b,o,none⟩) n c] w fun e w'=>e=.returned (.agg #[.int .i64 xn,.int .i64 0,.int .u64 ((0:Nat):Int),.string ys])∧Below w.heap.size w w':=by
 have h1:((n:Int)==1)=false:=by simp;omega
 have h2:(1:Int)<(n:Int):=by omega
 have h3:(0:Int)<(n:Int):=by omega
 have h4:¬n=1:=by omega
 have h5:0<n:=by omega
 have h6:1<n:=by omega
 have HN:=zH hN
 clear hN hn hc hbig
 have HK:=zH (Kn.start w)
 obtain⟨x1,x4,x5⟩:=HX.out _ HK.out.b
 go_enter Tryz.func271,Tryz.ntmps271
 go_upto_region 4 with (first|(refine wpList_akv HK rfl rfl ?_;intro _ g1 HK';simp only[lcA,lnA] at HK';replace HK:=HK';clear HK';clear x1 x4 x5;obtain⟨x1,x4,x5⟩:=HX.out _ HK.out.b)|(first|(refine wpList_sv HK 1 rfl _ _ rfl rfl rfl rfl ?_;intro _ HK';simp only[List.set] at HK';replace HK:=HK';clear HK';clear x1 x4 x5;obtain⟨x1,x4,x5⟩:=HX.out _ HK.out.b)|(refine wpList_sv HK 0 rfl _ _ rfl rfl rfl rfl ?_;intro _ HK';simp only[List.set] at HK';replace HK:=HK';clear HK';clear x1 x4 x5;obtain⟨x1,x4,x5⟩:=HX.out _ HK.out.b)))
 have z0:=HK.out.cell 1 rfl 0 (v:=.int .i64 xn) rfl
 go_wp2_with fail
 refine(HN.out _).mono ?_;rintro e w1 ⟨rfl,b1⟩
 replace HK:=hkC HK b1
 clear b1 z0
 go_upto_region 5 with (first|(refine wpList_ak3 HK rfl rfl ?_;intro _ g3 HK';simp only[lcA,lnA] at HK';replace HK:=HK';clear HK')|(refine wpList_sf3 HK 2 rfl _ _ rfl rfl rfl rfl ?_;intro _ HK';simp only[List.set] at HK';replace HK:=HK';clear HK'))
 clear x1 x4 x5
 obtain⟨x1,x4,x5⟩:=HX.out _ HK.out.b
 have y0:=HK.out.cell 2 rfl 0 (v:=.bool false) rfl
 have y1:=HK.out.cell 2 rfl 1 (v:=.bool false) rfl
 have y2:=HK.out.cell 2 rfl 2 (v:=.bool true) rfl
 go_wp2_with (first|(refine wpList_svn HK 1 rfl _ _ rfl rfl rfl rfl ?_;intro _ HK';simp only[List.set] at HK';replace HK:=HK';clear HK';clear x1 x4 x5 y0 y1 y2;obtain⟨x1,x4,x5⟩:=HX.out _ HK.out.b;have y0:=HK.out.cell 2 rfl 0 (v:=.bool false) rfl;have y1:=HK.out.cell 2 rfl 1 (v:=.bool false) rfl;have y2:=HK.out.cell 2 rfl 2 (v:=.bool true) rfl)|(refine wpList_svf HK 1 rfl _ _ rfl rfl rfl rfl ?_;intro _ HK';simp only[List.set] at HK';replace HK:=HK';clear HK';clear x1 x4 x5 y0 y1 y2;obtain⟨x1,x4,x5⟩:=HX.out _ HK.out.b;have y0:=HK.out.cell 2 rfl 0 (v:=.bool false) rfl;have y1:=HK.out.cell 2 rfl 1 (v:=.bool false) rfl;have y2:=HK.out.cell 2 rfl 2 (v:=.bool true) rfl)|(refine wpList_svs HK 1 rfl _ _ rfl rfl rfl rfl ?_;intro _ HK';simp only[List.set] at HK';replace HK:=HK';clear HK';clear x1 x4 x5 y0 y1 y2;obtain⟨x1,x4,x5⟩:=HX.out _ HK.out.b;have y0:=HK.out.cell 2 rfl 0 (v:=.bool false) rfl;have y1:=HK.out.cell 2 rfl 1 (v:=.bool false) rfl;have y2:=HK.out.cell 2 rfl 2 (v:=.bool true) rfl)|refine wpList_of_exec (by rfl) (kexec_vv HK 1 _ rfl rfl rfl) ?_|(refine wpList_sv HK 0 rfl _ _ rfl rfl rfl rfl ?_;intro _ HK';simp only[List.set] at HK';replace HK:=HK';clear HK'))
 exact ret_v Tryz.results271 rfl rfl (HK.out.blk 0 rfl) ⟨rfl,HK.out.b⟩
theorem take_z(hn:2≤n)(hc:n≤c)(hbig:n≤9223372036854775807)(ok:Bool)(hN:∀W,Calls Tryz.prog 180 #[.int .i64 xn] W (IsNamed false false false ok W))(HX:Hid (∀W,Below w.heap.size w W→W.cell? ⟨b,o+1,none⟩=some (.int .i64 xn)∧W.cell? ⟨b,o+4,none⟩=some (.int .i64 yn)∧W.cell? ⟨b,o+5,none⟩=some (.string ys))):
  Calls Tryz.prog 271 #[.slice (some ⟨b,o,none⟩) n c] w fun e w'=>e=.returned (.agg #[.int .i64 xn,.int .i64 0,.int .u64 ((0:Nat):Int),.string ⟨#[]⟩])∧Below w.heap.size w w':=by
 have h1:((n:Int)==1)=false:=by simp;omega
 have h2:(1:Int)<(n:Int):=by omega
 have h3:(0:Int)<(n:Int):=by omega
 have h4:¬n=1:=by omega
 have h5:0<n:=by omega
 have h6:1<n:=by omega
 have HN:=zH hN
 clear hN hn hc hbig
 have HK:=zH (Kn.start w)
 obtain⟨x1,x4,x5⟩:=HX.out _ HK.out.b
 go_enter Tryz.func271,Tryz.ntmps271
 go_upto_region 4 with (first|(refine wpList_akv HK rfl rfl ?_;intro _ g1 HK';simp only[lcA,lnA] at HK';replace HK:=HK';clear HK';clear x1 x4 x5;obtain⟨x1,x4,x5⟩:=HX.out _ HK.out.b)|(first|(refine wpList_sv HK 1 rfl _ _ rfl rfl rfl rfl ?_;intro _ HK';simp only[List.set] at HK';replace HK:=HK';clear HK';clear x1 x4 x5;obtain⟨x1,x4,x5⟩:=HX.out _ HK.out.b)|(refine wpList_sv HK 0 rfl _ _ rfl rfl rfl rfl ?_;intro _ HK';simp only[List.set] at HK';replace HK:=HK';clear HK';clear x1 x4 x5;obtain⟨x1,x4,x5⟩:=HX.out _ HK.out.b)))
 have z0:=HK.out.cell 1 rfl 0 (v:=.int .i64 xn) rfl
 go_wp2_with fail
 refine(HN.out _).mono ?_;rintro e w1 ⟨rfl,b1⟩
 replace HK:=hkC HK b1
 clear b1 z0
 go_upto_region 5 with (first|(refine wpList_ak3 HK rfl rfl ?_;intro _ g3 HK';simp only[lcA,lnA] at HK';replace HK:=HK';clear HK')|(refine wpList_sf3 HK 2 rfl _ _ rfl rfl rfl rfl ?_;intro _ HK';simp only[List.set] at HK';replace HK:=HK';clear HK'))
 clear x1 x4 x5
 obtain⟨x1,x4,x5⟩:=HX.out _ HK.out.b
 have y0:=HK.out.cell 2 rfl 0 (v:=.bool false) rfl
 have y1:=HK.out.cell 2 rfl 1 (v:=.bool false) rfl
 have y2:=HK.out.cell 2 rfl 2 (v:=.bool false) rfl
 go_wp2_with (first|(refine wpList_svn HK 1 rfl _ _ rfl rfl rfl rfl ?_;intro _ HK';simp only[List.set] at HK';replace HK:=HK';clear HK';clear x1 x4 x5 y0 y1 y2;obtain⟨x1,x4,x5⟩:=HX.out _ HK.out.b;have y0:=HK.out.cell 2 rfl 0 (v:=.bool false) rfl;have y1:=HK.out.cell 2 rfl 1 (v:=.bool false) rfl;have y2:=HK.out.cell 2 rfl 2 (v:=.bool false) rfl)|(refine wpList_svf HK 1 rfl _ _ rfl rfl rfl rfl ?_;intro _ HK';simp only[List.set] at HK';replace HK:=HK';clear HK';clear x1 x4 x5 y0 y1 y2;obtain⟨x1,x4,x5⟩:=HX.out _ HK.out.b;have y0:=HK.out.cell 2 rfl 0 (v:=.bool false) rfl;have y1:=HK.out.cell 2 rfl 1 (v:=.bool false) rfl;have y2:=HK.out.cell 2 rfl 2 (v:=.bool false) rfl)|(refine wpList_svs HK 1 rfl _ _ rfl rfl rfl rfl ?_;intro _ HK';simp only[List.set] at HK';replace HK:=HK';clear HK';clear x1 x4 x5 y0 y1 y2;obtain⟨x1,x4,x5⟩:=HX.out _ HK.out.b;have y0:=HK.out.cell 2 rfl 0 (v:=.bool false) rfl;have y1:=HK.out.cell 2 rfl 1 (v:=.bool false) rfl;have y2:=HK.out.cell 2 rfl 2 (v:=.bool false) rfl)|refine wpList_of_exec (by rfl) (kexec_vv HK 1 _ rfl rfl rfl) ?_|(refine wpList_sv HK 0 rfl _ _ rfl rfl rfl rfl ?_;intro _ HK';simp only[List.set] at HK';replace HK:=HK';clear HK'))
 exact ret_v Tryz.results271 rfl rfl (HK.out.blk 0 rfl) ⟨rfl,HK.out.b⟩
end
theorem vtake_any(b o c n:Nat)(l:List Itm.It)(w:World)(hl:l.length=n)(h0:0<n)(hc:n≤c)(hbig:n≤9223372036854775807)(hb:b<w.heap.size)(hi:∀i x,l[i]?=some x→itemLay.At w b o i x):
  Calls Tryz.prog 271 #[.slice (some ⟨b,o,none⟩) n c] w fun e w'=>e=.returned (vv (Val.take l))∧Below w.heap.size w w':=by
 match l,hl with
 | [],hl=>simp at hl;omega
 | [x],hl=>
  obtain rfl:n=1:=by simpa using hl.symm
  exact take_1 b o c x.n w (zH fun W hW=>by
   have:=(at_item ((hi 0 x rfl).keep (w':=W) fun q hq=>hW.cell (by rw[hq];exact hb))).2.1
   simpa using this)
 | x::y::r,hl=>
  have hn2:2≤n:=by simp at hl;omega
  have HX:Hid (∀W,Below w.heap.size w W→W.cell? ⟨b,o+1,none⟩=some (.int .i64 x.n)∧W.cell? ⟨b,o+4,none⟩=some (.int .i64 y.n)∧W.cell? ⟨b,o+5,none⟩=some (.string y.s)):=zH fun W hW=>by
   have k0:=(at_item ((hi 0 x rfl).keep (w':=W) fun q hq=>hW.cell (by rw[hq];exact hb))).2.1
   have k1:=at_item ((hi 1 y rfl).keep (w':=W) fun q hq=>hW.cell (by rw[hq];exact hb))
   exact⟨by simpa using k0,by simpa using k1.2.1,by simpa using k1.2.2⟩
  unfold Val.take vv
  simp only
  by_cases h1:x.n=1
  ·rw[if_pos h1,if_neg (by omega),if_neg (by omega)]
   exact take_i b o c n x.n y.n y.s w hn2 hc hbig true (fun W=>by rw[h1];exact named1 W) HX
  by_cases h2:x.n=2
  ·rw[if_neg (by omega),if_pos h2,if_neg (by omega)]
   exact take_f b o c n x.n y.n y.s w hn2 hc hbig true (fun W=>by rw[h2];exact named2 W) HX
  by_cases h3:x.n=3
  ·rw[if_neg (by omega),if_neg (by omega),if_pos h3]
   exact take_s b o c n x.n y.n y.s w hn2 hc hbig true (fun W=>by rw[h3];exact named3 W) HX
  ·rw[if_neg h1,if_neg h2,if_neg h3]
   by_cases h4:x.n=0
   ·exact take_z b o c n x.n y.n y.s w hn2 hc hbig true (fun W=>by rw[h4];exact named0 W) HX
   ·exact take_z b o c n x.n y.n y.s w hn2 hc hbig false (fun W=>named9 x.n W (by omega)) HX
theorem take_f_lt(l:List Itm.It):(Val.take l).f<18446744073709551616:=by
 match l with
 | []=>show(0:Nat)<18446744073709551616;decide
 | [x]=>show(0:Nat)<18446744073709551616;decide
 | x::y::r=>
  unfold Val.take
  simp only
  split
  ·exact us_lt _
  ·decide
end
section
open Go.RowKit
namespace Itm
theorem text_same{a b:ByteArray}(h:a.toList=b.toList):a=b:=by
 rw[ByteArray.toList_eq,ByteArray.toList_eq] at h
 exact ByteArray.ext (Array.toList_inj.1 h)
theorem num_ne{x y:Int}(h:¬x=y):(x != y)=true:=by simpa using h
end Itm
def IsEq2(l m:List Itm.It)(w:World)(e:Ending)(w':World):Prop:=∃b,e=.returned (.bool b)∧(b=true↔l=m)∧∃n,w'=w.drewN n
theorem iequal2_any(A A':Option Addr)(c c':Nat)(l m:List Itm.It)(w:World)(B B':Nat)(hl:l.length≤9223372036854775807)(_hm:m.length≤9223372036854775807)(hi:itemLay.Reads w B A l)(hi':itemLay.Reads w B' A' m):
  Calls Tryz.prog 272 #[.slice A l.length c,.slice A' m.length c'] w (IsEq2 l m w):=by
 by_cases hlen:l.length=m.length
 ·have HI:=zH hi
  have HI':=zH hi'
  rw[← hlen]
  clear hi hi' _hm
  generalize hn:l.length=n at *
  have HN:=zH hn
  have HM:=zH hlen
  clear hn hlen
  have hnn:((n:Int) != (n:Int))=false:=by simp
  go_enter Tryz.func272,Tryz.ntmps272
  go_wp2_with fail
  go_loopw [13] (fun vi wr=>∃k q:Nat,k≤n∧vi=.int .i64 k∧wr=w.drewN q∧Hid (l.take k=m.take k)) (fun vi _=>n-(intOf vi).toNat)
  case atStart=>exact⟨0,0,Nat.zero_le _,rfl,rfl,zH rfl⟩
  case round=>
   obtain⟨k,q,hk,rfl,rfl,HT⟩:=hrel
   by_cases hlt:k<n
   ·obtain⟨x,hx⟩:=Lay.get_of (l:=l) (k:=k) (by rw[HN.out];exact hlt)
    obtain⟨y,hy⟩:=Lay.get_of (l:=m) (k:=k) (by rw[← HM.out];exact hlt)
    obtain⟨b,o,rfl,_,hc⟩:=HI.out (by rw[HN.out];omega)
    obtain⟨b',o',rfl,_,hc'⟩:=HI'.out (by rw[← HM.out];omega)
    obtain⟨c0,c1,c2⟩:=at_item (hc k x hx)
    obtain⟨d0,d1,d2⟩:=at_item (hc' k y hy)
    have HXY:Hid (x≠y→l=m→False):=zH (fun h e=>by
     subst e
     rw[hx] at hy
     exact h (Option.some.inj hy))
    have HT1:Hid (x=y→l.take (k+1)=m.take (k+1)):=zH fun e=>by
     rw[Lay.take_succ hx,Lay.take_succ hy,HT.out,e]
    clear hc hc' hx hy
    have hk1:(0:Int)≤(k:Int):=by omega
    have hk2:(k:Int)<(n:Int):=by omega
    obtain⟨xk,xn,xs⟩:=x
    obtain⟨yk,yn,ys⟩:=y
    simp only at c0 c1 c2 d0 d1 d2
    have hcases:(xk=yk∧xn=yn∧xs=ys)∨((⟨xk,xn,xs⟩:Itm.It)≠⟨yk,yn,ys⟩∧((xk==yk)=false∨(xn==yn)=false∨((xs.toList==ys.toList)=false∧¬xs.toList=ys.toList))):=by
     by_cases e1:xk=yk
     ·by_cases e2:xn=yn
      ·by_cases e3:xs=ys
       ·exact .inl ⟨e1,e2,e3⟩
       ·have h2:¬xs.toList=ys.toList:=fun e=>e3 (Itm.text_same e)
        exact .inr ⟨fun e=>e3 (by injection e),.inr (.inr ⟨by simpa using h2,h2⟩)⟩
      ·exact .inr ⟨fun e=>e2 (by injection e),.inr (.inl (by simpa using e2))⟩
     ·exact .inr ⟨fun e=>e1 (by injection e),.inl (by simpa using e1)⟩
    rcases hcases with ⟨rfl,rfl,rfl⟩|⟨hne,hd⟩
    ·go_wp2_with fail
     go_quiet (fail)
     go_wp2_with fail
     exact⟨⟨k+1,q+nq,by omega,by go_num,rfl,zH (HT1.out (by first|trivial|rfl))⟩,by simp[intOf];omega⟩
    ·have HF:=zH (HXY.out hne)
     clear HXY hne
     rcases hd with hd|hd|⟨hd,hd2⟩
     all_goals
      go_wp2_with fail
      go_quiet (fail)
      go_wp2_with fail
      go_ret
      exact⟨false,rfl,⟨(fun e=>by cases e),fun e=>(HF.out e).elim⟩,q+nq,by rw[World.drewN_drewN]⟩
   ·obtain rfl:k=n:=by omega
    have HE:Hid (l=m):=zH (by have h:=HT.out;rwa [List.take_of_length_le (by rw[HN.out];exact Nat.le_refl _),List.take_of_length_le (by rw[← HM.out];exact Nat.le_refl _)] at h)
    go_wp2_with fail
    go_ret
    exact⟨true,rfl,⟨fun _=>HE.out,fun _=>rfl⟩,q,rfl⟩
 ·have hne:((l.length:Int) != (m.length:Int))=true:=Itm.num_ne (by omega)
  have HF:Hid (l=m→False):=zH (fun e=>hlen (by rw[e]))
  generalize l.length=n at *
  generalize m.length=n' at *
  clear hlen hi hi'
  go_enter Tryz.func272,Tryz.ntmps272
  go_wp2_with fail
  go_ret
  exact⟨false,rfl,⟨(fun e=>by cases e),fun e=>(HF.out e).elim⟩,0,rfl⟩
end
section
open Go.RowKit
def IsVF2(v:Val.V)(p z n:Nat)(c:Prop)(w:World)(e:Ending)(w':World):Prop:=∃(u:Val.V) (y:Nat) (b:Bool),e=.returned (.tuple #[vv u,.int .i64 (y:Int),.bool b])∧(c→u=v∧y=z∧b=true)∧(¬c→b=false)∧(b=true→p≤y∧y≤n)∧u.f<18446744073709551616∧Below w.heap.size w w'
theorem ret_v32{fn:Func}{R:Ending→World→Prop}{a:Act}{w:World}{B:Nat}{k n:Int}{f:Nat}{s:ByteArray}{u z:Value}{q q2 q3:Tmp}(hf:fn.results=#[.cell q 26,.tmp q2,.tmp q3])(h2:a.tmps[q]?=some (.pointer (some ⟨B,0,none⟩)))(h3:a.tmps[q2]?=some u)(h4:a.tmps[q3]?=some z)(hd:a.defers=[])(hb:Blk w B 26 (vC k n f s))
  (hR:R (.returned (.tuple #[.agg #[.int .i64 k,.int .i64 n,.int .u64 (f:Int),.string s],u,z])) w):bodyPost Tryz.prog fn R Exit.ret a w:=by
 refine bodyPost_ret (v:=.tuple #[.agg #[.int .i64 k,.int .i64 n,.int .u64 (f:Int),.string s],u,z]) ?_ hd hR
 have h:(loadVar 26 ⟨B,0,none⟩).run Tryz.prog w=.ok (.agg (vC k n f s)) w:=run_loadVar_row (P:=Tryz.prog) w B _ _ _ (0,0) _ hb Tryz.underlying26 rfl info_v4
 unfold vC at h
 simp[results,hf,asAddr,Sem.run_bind,h2,h3,h4,h]
theorem it_len2(v:Val.V):1≤(Val.items v).length∧(Val.items v).length≤2:=by
 rw[items_split];(repeat' split)<;>simp
theorem at_drop2{w:World}{b o:Nat}{l:List Itm.It}(p:Nat)(h:∀i x,l[i]?=some x→itemLay.At w b o i x):∀i x,(l.drop p)[i]?=some x→itemLay.At w b (o+p*3) i x:=fun i x hx=>by
 rw[List.getElem?_drop] at hx
 have h1:=h _ _ hx
 intro j u hu
 have:=h1 j u hu
 have e:itemLay.k=3:=rfl
 rw[e] at this ⊢
 rw[show o+p*3+i*3+j=o+(p+i)*3+j from by omega]
 exact this
theorem vfrom2_any(A:Option Addr)(c n p:Nat)(l:List Itm.It)(w:World)(hl:l.length=n)(hp:p≤n)(hc:n≤c)(hbig:n≤1000000000)(hi:itemLay.Reads w w.heap.size A l):
  Calls Tryz.prog 252 #[.slice A n c,.int .i64 p] w
   (IsVF2 (Val.take (l.drop p)) p (p+(Val.items (Val.take (l.drop p))).length) n (p<n∧Val.chk (Val.take (l.drop p))=0∧p+(Val.items (Val.take (l.drop p))).length≤n∧(l.drop p).take (Val.items (Val.take (l.drop p))).length=Val.items (Val.take (l.drop p))) w):=by
 have HZ:Hid (∀c w',Below w.heap.size w w'→¬c→IsVF2 (Val.take (l.drop p)) p (p+(Val.items (Val.take (l.drop p))).length) n c w (.returned (.tuple #[.agg #[.int .i64 0,.int .i64 0,.int .u64 ((0:Nat):Int),.string ⟨#[]⟩],.int .i64 ((0:Nat):Int),.bool false])) w'):=
  zH fun c w' hb hc=>⟨⟨0,0,0,⟨#[]⟩⟩,0,false,rfl,fun h=>absurd h hc,(fun _=>rfl),(fun h=>by cases h),(by decide),hb⟩
 by_cases hpn:p<n
 case neg=>
  have hpe:¬((p:Int)<(n:Int)):=by omega
  have h1:¬((p:Int)<0):=by omega
  have h2:(n:Int)≤(p:Int):=by omega
  have HF:Hid (¬(p<n∧Val.chk (Val.take (l.drop p))=0∧p+(Val.items (Val.take (l.drop p))).length≤n∧(l.drop p).take (Val.items (Val.take (l.drop p))).length=Val.items (Val.take (l.drop p)))):=zH fun h=>hpn h.1
  generalize (p<n∧Val.chk (Val.take (l.drop p))=0∧p+(Val.items (Val.take (l.drop p))).length≤n∧(l.drop p).take (Val.items (Val.take (l.drop p))).length=Val.items (Val.take (l.drop p)))=cc at *
  generalize p+(Val.items (Val.take (l.drop p))).length=zz at *
  generalize Val.take (l.drop p)=v at *
  have HK:=zH (Kn.start w)
  clear hi hl hpn
  go_enter Tryz.func252,Tryz.ntmps252
  go_wp2_with (first|(refine wpList_akv HK rfl rfl ?_;intro _ g1 HK';simp only[lcA,lnA] at HK';replace HK:=HK';clear HK')|(refine wpList_sv (f2:=0) HK 0 rfl _ _ rfl rfl rfl rfl ?_;intro _ HK';simp only[List.set] at HK';replace HK:=HK';clear HK'))
  exact ret_v32 Tryz.results252 rfl rfl rfl rfl (HK.out.blk 0 rfl) (HZ.out _ _ HK.out.b HF.out)
 case pos=>
 obtain⟨b,o,rfl,hb,hat⟩:=hi (by omega)
 have HT:=zH (fun W (hW:Below w.heap.size w W)=>vtake_any b (o+p*3) (c-p) (n-p) (l.drop p) W (by rw[List.length_drop,hl]) (by omega) (by omega) (by omega) (Nat.lt_of_lt_of_le hb hW.size) (at_drop2 p fun i x hx=>(hat i x hx).keep fun q hq=>hW.cell (by rw[hq];exact hb)))
 have hf:=take_f_lt (l.drop p)
 have hil:=it_len2 (Val.take (l.drop p))
 have HI:=zH hi
 have HIt:=zH (fun W=>vitems_any (Val.take (l.drop p)) W hf)
 have HCk:=zH (fun W=>check_any (Val.take (l.drop p)) W hf)
 have HF:=zH hf
 have hcd:p+(Val.items (Val.take (l.drop p))).length≤n→((l.drop p).take (Val.items (Val.take (l.drop p))).length).length=(Val.items (Val.take (l.drop p))).length:=fun h=>by
  rw[List.length_take,List.length_drop,hl];omega
 have HEQ:Hid (∀W A' c' m,Below w.heap.size w W→itemLay.Reads W W.heap.size A' (Val.items (Val.take (l.drop p)))→(Val.items (Val.take (l.drop p))).length=m→p+m≤n→Calls Tryz.prog 272 #[.slice (some ⟨b,o+p*3,none⟩) m (c-p),.slice A' m c'] W (IsEq2 ((l.drop p).take (Val.items (Val.take (l.drop p))).length) (Val.items (Val.take (l.drop p))) W)):=zH (by
  intro W A' c' m hW ho hm hle
  subst hm
  have h:=iequal2_any (some ⟨b,o+p*3,none⟩) A' (c-p) c' ((l.drop p).take (Val.items (Val.take (l.drop p))).length) (Val.items (Val.take (l.drop p))) W W.heap.size W.heap.size (by rw[hcd (by omega)];omega) (by omega) (((HI.out.later hW (Nat.le_refl _)).drop p).take _) ho
  rw[hcd (by omega)] at h
  exact h)
 have hpc:p≤c:=by omega
 have hm:=hil.2
 clear hi hat hf hl hil
 have HG:Hid (∀w',Below w.heap.size w w'→p+(Val.items (Val.take (l.drop p))).length≤n→(p<n∧Val.chk (Val.take (l.drop p))=0∧p+(Val.items (Val.take (l.drop p))).length≤n∧(l.drop p).take (Val.items (Val.take (l.drop p))).length=Val.items (Val.take (l.drop p)))→IsVF2 (Val.take (l.drop p)) p (p+(Val.items (Val.take (l.drop p))).length) n (p<n∧Val.chk (Val.take (l.drop p))=0∧p+(Val.items (Val.take (l.drop p))).length≤n∧(l.drop p).take (Val.items (Val.take (l.drop p))).length=Val.items (Val.take (l.drop p))) w (.returned (.tuple #[vv (Val.take (l.drop p)),.int .i64 ((p+(Val.items (Val.take (l.drop p))).length:Nat):Int),.bool true])) w'):=
  zH fun w' hb hle hcc=>⟨_,_,true,rfl,fun _=>⟨rfl,rfl,rfl⟩,fun h=>absurd hcc h,fun _=>⟨by omega,hle⟩,HF.out,hb⟩
 have HN:Hid ((p<n∧Val.chk (Val.take (l.drop p))=0∧p+(Val.items (Val.take (l.drop p))).length≤n∧(l.drop p).take (Val.items (Val.take (l.drop p))).length=Val.items (Val.take (l.drop p)))↔Val.chk (Val.take (l.drop p))=0∧p+(Val.items (Val.take (l.drop p))).length≤n∧(l.drop p).take (Val.items (Val.take (l.drop p))).length=Val.items (Val.take (l.drop p))):=zH ⟨fun h=>h.2,fun h=>⟨hpn,h⟩⟩
 generalize (p<n∧Val.chk (Val.take (l.drop p))=0∧p+(Val.items (Val.take (l.drop p))).length≤n∧(l.drop p).take (Val.items (Val.take (l.drop p))).length=Val.items (Val.take (l.drop p)))=cc at *
 clear hcd HF
 unfold IsIt at HIt
 generalize (l.drop p).take (Val.items (Val.take (l.drop p))).length=pre at *
 generalize Val.take (l.drop p)=v at *
 generalize Val.items v=own at *
 generalize hmm:own.length=m at *
 have HM:=zH hmm
 clear hmm
 obtain⟨k,q,f,s⟩:=v
 generalize hck:Val.chk ⟨k,q,f,s⟩=z at *
 have HCK:=zH hck
 clear hck
 unfold vv IsE IsEq2 at *
 simp only at HT HIt HCk HG
 have h1:¬((p:Int)<0):=by omega
 have h2:¬((n:Int)≤(p:Int)):=by omega
 have h3:wrap64 ((p:Int)+(m:Int))=((p+m:Nat):Int):=by unfold wrap64;omega
 have hz:z=0∨(z != 0)=true:=by
  by_cases h:z=0
  ·exact .inl h
  ·exact .inr (by simpa using h)
 have HK:=zH (Kn.start w)
 go_enter Tryz.func252,Tryz.ntmps252
 go_wp2_with (first|(refine wpList_akv HK rfl rfl ?_;intro _ g1 HK';simp only[lcA,lnA] at HK';replace HK:=HK';clear HK'))
 refine(HT.out _ HK.out.b).mono ?_;rintro e w1 ⟨rfl,b1⟩
 replace HK:=hkC HK b1
 clear b1 HT
 go_wp2_with (first|(refine wpList_akv HK rfl rfl ?_;intro _ g1 HK';simp only[lcA,lnA] at HK';replace HK:=HK';clear HK')|(refine wpList_sv HK 1 rfl _ _ rfl rfl rfl rfl ?_;intro _ HK';simp only[List.set] at HK';replace HK:=HK';clear HK')|refine wpList_of_exec (by rfl) (kexec_vv HK 1 _ rfl rfl rfl) ?_)
 refine(HIt.out _).mono ?_;rintro e w2 ⟨A2,c2,rfl,o2,b2⟩
 have HO:=zH (Lay.Own.reads o2).2
 replace HK:=hkC HK b2
 clear b2 o2 HIt
 go_wp2_with (first|refine wpList_of_exec (by rfl) (kexec_vv HK 1 _ rfl rfl rfl) ?_)
 refine(HCk.out _).mono ?_;rintro e w3 ⟨rfl,b3⟩
 replace HK:=hkC HK b3
 replace HO:=zH (HO.out.later b3 (Nat.le_refl _))
 clear b3 HCk
 rcases hz with rfl|hz
 ·by_cases hle:p+m≤n
  ·have h4:¬((n:Int)<((p+m:Nat):Int)):=by omega
   have h5:¬((n:Int)<(p:Int)+(m:Int)):=by omega
   have h6:p+m≤c:=by omega
   have h7:p≤p+m:=by omega
   go_wp2_with fail
   refine(HEQ.out _ _ _ _ HK.out.b HO.out rfl hle).mono ?_;rintro e w4 ⟨bb,rfl,hbb,nn,rfl⟩
   replace HK:=zH (HK.out.drewN nn)
   have HBB:=zH hbb
   clear hbb
   cases bb
   ·go_wp2_with (first|(refine wpList_sv (f2:=0) HK 0 rfl _ _ rfl rfl rfl rfl ?_;intro _ HK';simp only[List.set] at HK';replace HK:=HK';clear HK'))
    exact ret_v32 Tryz.results252 rfl rfl rfl rfl (HK.out.blk 0 rfl) (HZ.out _ _ HK.out.b fun h=>absurd (HBB.out.2 (HN.out.1 h).2.2) (by simp))
   ·go_wp2_with (first|refine wpList_of_exec (by rfl) (kexec_vv HK 1 _ rfl rfl rfl) ?_|(refine wpList_sv HK 0 rfl _ _ rfl rfl rfl rfl ?_;intro _ HK';simp only[List.set] at HK';replace HK:=HK';clear HK'))
    exact ret_v32 Tryz.results252 rfl rfl rfl rfl (HK.out.blk 0 rfl) (HG.out _ HK.out.b hle (HN.out.2 ⟨(by first|trivial|rfl),hle,HBB.out.1 (by first|trivial|rfl)⟩))
  ·have h4:((n:Int)<((p+m:Nat):Int)):=by omega
   have h5:((n:Int)<(p:Int)+(m:Int)):=by omega
   go_wp2_with (first|(refine wpList_sv (f2:=0) HK 0 rfl _ _ rfl rfl rfl rfl ?_;intro _ HK';simp only[List.set] at HK';replace HK:=HK';clear HK'))
   exact ret_v32 Tryz.results252 rfl rfl rfl rfl (HK.out.blk 0 rfl) (HZ.out _ _ HK.out.b fun h=>hle (HN.out.1 h).2.1)
 ·have HNZ:Hid (¬z=0):=zH (by simpa using hz)
  go_wp2_with (first|(refine wpList_sv (f2:=0) HK 0 rfl _ _ rfl rfl rfl rfl ?_;intro _ HK';simp only[List.set] at HK';replace HK:=HK';clear HK'))
  exact ret_v32 Tryz.results252 rfl rfl rfl rfl (HK.out.blk 0 rfl) (HZ.out _ _ HK.out.b fun h=>HNZ.out (HN.out.1 h).1)
end
end Go.Proofs.YtieoeendnccafaaGreat
